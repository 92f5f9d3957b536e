import Derived.Test.YtfomnkkpiflokaaPa2
import Derived.Deep.RegionLaw
import Derived.Deep.RegionHeld3
import Derived.Test.YtfomnkkpiflokaaSe2
namespace Go.Proofs.Ytfomnkkpiflokaa
namespace Sk
open Go.RowKit Laws Irw Erw KMath Skm Byt
set_option linter.unusedVariables false
set_option maxRecDepth 100000
set_option linter.unusedSimpArgs false

/-- what a call of a pair leaves -/
def PlayAns (t u : Nat) (T : Nat → Nat) (w : World) (L R : Nat) (ds : List Nat) (ns : List Nd) (w' : World) : Prop :=
  ∃ T' ns' bs', Pr t u T' w' L R ds ns' bs' ∧ Goes (fun z => z = t ∨ z = u) T w T' w' ∧ ns'.length ≤ ns.length + 1
def retag (A B u : Nat) (T : Nat → Nat) (b : Nat) : Nat := if A ≤ b ∧ b < B then u else T b
theorem goes_retag {T : Nat → Nat} {w w' : World} {R u : Nat} (hk : Keep [R] w w') (hR : T R = u) : Goes (· = u) T w (retag w.heap.size w'.heap.size u T) w' :=
  ⟨hk.os, hk.tape, hk.output, hk.size, fun b hb hn => hk.block b hb (by intro h; simp at h; subst h; exact hn hR), fun b hb _ => by unfold retag; rw [if_neg (by omega)], fun b hb h0 => by unfold retag; rw [if_neg (by omega)]; exact h0⟩
theorem PlayAns.same {t u : Nat} {T : Nat → Nat} {w w' : World} {L R : Nat} {ds : List Nat} {ns : List Nd} {bs : List Nat} (h : Pr t u T w L R ds ns bs) (hb : Below w.heap.size w w') : PlayAns t u T w L R ds ns w' :=
  ⟨T, ns, bs, h.below hb, Goes.below hb, by omega⟩
theorem put_rl {t u : Nat} {T : Nat → Nat} {w W1 w5 : World} {L R : Nat} {ds : List Nat} {ns : List Nd} {bs : List Nat} {x : En} {ok : Bool} (h : Pr t u T w L R ds ns bs) (hb : Below w.heap.size w W1) (htu : t ≠ u) (h5 : PutAns t T W1 L ds ns x ok w5) : Rl w5 R ds (esN ns) (hsN ns) bs := by
  obtain ⟨T5, ns5, k1, k2, k3⟩ := h5
  have hP1 := h.below hb
  exact hP1.rl.same k2.size (k2.block _ hP1.rl.lt (by rw [hP1.tR]; exact fun e => htu e.symm)) (fun b hbm => k2.block _ (hP1.rl.low b hbm).1 (by rw [hP1.tb b hbm]; exact fun e => htu e.symm))
/-- both Puts, one behind the other -/
theorem both_put {t u : Nat} {T : Nat → Nat} {w W1 w5 w6 : World} {L R : Nat} {ds : List Nat} {ns : List Nd} {bs : List Nat} {x : En} {ok ok2 : Bool} (h : Pr t u T w L R ds ns bs) (hb : Below w.heap.size w W1) (htu : t ≠ u) (htu1 : t + 1 ≠ u) (h5 : PutAns t T W1 L ds ns x ok w5)
    (h6 : RPutAns w5 R ds (esN ns) (hsN ns) bs x ok2 w6) : ok2 = ok ∧ PlayAns t u T w L R ds ns w6 := by
  obtain ⟨T5, ns5, k1, k2, k3⟩ := h5
  have hP1 := h.below hb
  have hrl5 : Rl w5 R ds (esN ns) (hsN ns) bs := hP1.rl.same k2.size (k2.block _ hP1.rl.lt (by rw [hP1.tR]; exact fun e => htu e.symm)) (fun b hbm => k2.block _ (hP1.rl.low b hbm).1 (by rw [hP1.tb b hbm]; exact fun e => htu e.symm))
  have tR5 : T5 R = u := (k2.tag _ hP1.rl.lt (by rw [hP1.tR]; exact fun e => htu e.symm)).trans hP1.tR
  have tb5 : ∀ b ∈ bs, T5 b = u := fun b hbm => (k2.tag _ (hP1.rl.low b hbm).1 (by rw [hP1.tb b hbm]; exact fun e => htu e.symm)).trans (hP1.tb b hbm)
  obtain ⟨es6, hs6, bs6, m1, m2, m3, m4⟩ := h6
  have hsame := put_same hP1.sl.sorted k1.sorted k3
  have hok : ok2 = ok ∧ es6 = esN ns5 ∧ hs6 = hsN ns5 := by
    rcases hsame with ⟨a1, a2, a3, a4⟩ | ⟨a1, a2, a3, a4⟩
    · rcases m4 with ⟨b1, b2, b3, b4⟩ | ⟨b1, b2, b3, b4⟩
      · exact ⟨by rw [a1, b1], by rw [b3, a3], by rw [b4, a4]⟩
      · exact absurd a2 b2
    · rcases m4 with ⟨b1, b2, b3, b4⟩ | ⟨b1, b2, b3, b4⟩
      · exact absurd b2 a2
      · exact ⟨by rw [a1, b1], by rw [b3, a3], by rw [b4, a4]⟩
  obtain ⟨rfl, rfl, rfl⟩ := hok
  refine ⟨rfl, retag w5.heap.size w6.heap.size u T5, ns5, bs6, ⟨k1.goes (goes_retag m2 tR5) htu htu1, m1, ?_, fun b hb6 => ?_⟩, ?_, ?_⟩
  · have := hrl5.lt
    unfold retag; rw [if_neg (by omega)]; exact tR5
  · unfold retag
    rcases m3 b hb6 with h7 | h7
    · have := (hrl5.low b h7).1
      rw [if_neg (by omega)]; exact tb5 b h7
    · rw [if_pos ⟨h7, (m1.low b hb6).1⟩]
  · exact ((Goes.below hb).trans (k2.mono fun z hz => .inl hz)).trans ((goes_retag m2 tR5).mono fun z hz => .inr hz)
  · rcases k3 with ⟨_, rfl, _⟩ | ⟨_, _, pre, post, b, e1, e2⟩
    · omega
    · rw [e2, e1]; simp; omega

set_option maxHeartbeats 8000000 in
theorem plays_put (t u : Nat) (ht : 0 < t) (htu : t ≠ u) (htu1 : t + 1 ≠ u) (T : Nat → Nat) (w : World) (L R : Nat) (ds : List Nat) (ns : List Nd) (bs : List Nat) (h : Pr t u T w L R ds ns bs) (hTz : ∀ b, w.heap.size ≤ b → T b = 0) (hlen : ns.length ≤ 2932031007401) (hd47 : ds.length ≤ 140737488355328) (kind : Int) (hkind : kind = 1) (sec : Bool) (x : En) (nn : Int) :
    Calls Try.prog 11 #[.agg #[.pointer (some ⟨L, 0, none⟩), .pointer (some ⟨R, 0, none⟩)], .agg #[.int .i64 kind, .bool sec, .string x.1, .int .u64 x.2.1, .bool x.2.2.1, .string x.2.2.2, .int .i64 nn]] w fun e w' => e = .returned (.bool true) ∧ PlayAns t u T w L R ds ns w' := by
  subst hkind
  obtain ⟨xk, xs, xd, xv⟩ := x
  dsimp only
  have HP : Hid (Pr t u T w L R ds ns bs) := h
  have HTZ : Hid (∀ b, w.heap.size ≤ b → T b = 0) := hTz
  have HLN : Hid (ns.length ≤ 2932031007401 ∧ ds.length ≤ 140737488355328) := ⟨hlen, hd47⟩
  have hb1 : Below w.heap.size w ((w.alloc (.cells #[.pointer (some ⟨L, 0, none⟩), .pointer (some ⟨R, 0, none⟩)] 48)).alloc (.cells #[.int .i64 1, .bool sec, .string xk, .int .u64 xs, .bool xd, .string xv, .int .i64 nn] 55)) := ((Below.refl _ _).alloc (Nat.le_refl _) _).alloc (by simp) _
  have g1 : ((w.alloc (.cells #[.pointer (some ⟨L, 0, none⟩), .pointer (some ⟨R, 0, none⟩)] 48)).alloc (.cells #[.int .i64 1, .bool sec, .string xk, .int .u64 xs, .bool xd, .string xv, .int .i64 nn] 55)).heap[w.heap.size]? = some (.cells #[.pointer (some ⟨L, 0, none⟩), .pointer (some ⟨R, 0, none⟩)] 48) := by
    rw [Below.heap_alloc _ _ _ (by simp)]; exact World.alloc_heap_new _ _
  have g2 : ((w.alloc (.cells #[.pointer (some ⟨L, 0, none⟩), .pointer (some ⟨R, 0, none⟩)] 48)).alloc (.cells #[.int .i64 1, .bool sec, .string xk, .int .u64 xs, .bool xd, .string xv, .int .i64 nn] 55)).heap[w.heap.size + 1]? = some (.cells #[.int .i64 1, .bool sec, .string xk, .int .u64 xs, .bool xd, .string xv, .int .i64 nn] 55) := by
    have := World.alloc_heap_new (w.alloc (.cells #[.pointer (some ⟨L, 0, none⟩), .pointer (some ⟨R, 0, none⟩)] 48)) (.cells #[.int .i64 1, .bool sec, .string xk, .int .u64 xs, .bool xd, .string xv, .int .i64 nn] 55)
    rwa [World.size_alloc] at this
  have hs1 : ((w.alloc (.cells #[.pointer (some ⟨L, 0, none⟩), .pointer (some ⟨R, 0, none⟩)] 48)).alloc (.cells #[.int .i64 1, .bool sec, .string xk, .int .u64 xs, .bool xd, .string xv, .int .i64 nn] 55)).heap.size = w.heap.size + 2 := by simp
  have HHI : Hid (∀ b, w.heap.size ≤ b → b < w.heap.size + 2 → True) := fun _ _ _ => trivial
  clear h hlen hd47
  go_enter Try.func11, Try.ntmps11
  go_upto_region 1 with (fail)
  generalize (w.alloc (.cells #[.pointer (some ⟨L, 0, none⟩), .pointer (some ⟨R, 0, none⟩)] 48)).alloc (.cells #[.int .i64 1, .bool sec, .string xk, .int .u64 xs, .bool xd, .string xv, .int .i64 nn] 55) = W1 at *
  have HBX : Hid (∀ W : World, (∀ b, w.heap.size ≤ b → b < w.heap.size + 2 → W.heap[b]? = W1.heap[b]?) → W.cell? ⟨w.heap.size, 0, none⟩ = some (.pointer (some ⟨L, 0, none⟩)) ∧ W.cell? ⟨w.heap.size, 1, none⟩ = some (.pointer (some ⟨R, 0, none⟩)) ∧ W.cell? ⟨w.heap.size + 1, 0, none⟩ = some (.int .i64 1) ∧ W.cell? ⟨w.heap.size + 1, 1, none⟩ = some (.bool sec) ∧ W.cell? ⟨w.heap.size + 1, 2, none⟩ = some (.string xk) ∧ W.cell? ⟨w.heap.size + 1, 3, none⟩ = some (.int .u64 xs) ∧ W.cell? ⟨w.heap.size + 1, 4, none⟩ = some (.bool xd) ∧ W.cell? ⟨w.heap.size + 1, 5, none⟩ = some (.string xv) ∧ W.cell? ⟨w.heap.size + 1, 6, none⟩ = some (.int .i64 nn)) := fun W hW => by
    have k1 := (hW _ (by omega) (by omega)).trans g1
    have k2 := (hW _ (by omega) (by omega)).trans g2
    exact ⟨by rw [cell_of_obj k1]; rfl, by rw [cell_of_obj k1]; rfl, by rw [cell_of_obj k2]; rfl, by rw [cell_of_obj k2]; rfl, by rw [cell_of_obj k2]; rfl, by rw [cell_of_obj k2]; rfl, by rw [cell_of_obj k2]; rfl, by rw [cell_of_obj k2]; rfl, by rw [cell_of_obj k2]; rfl⟩
  have HB1 : Hid (Below w.heap.size w W1 ∧ W1.heap.size = w.heap.size + 2) := ⟨hb1, hs1⟩
  have HD1 : Hid (Below w.heap.size w W1.drew) := hb1.drew
  have HTU : Hid (t ≠ u ∧ t + 1 ≠ u) := ⟨htu, htu1⟩
  have HBU : Hid (∀ W, Below W1.heap.size W1 W → ∀ b, w.heap.size ≤ b → b < w.heap.size + 2 → W.heap[b]? = W1.heap[b]?) := fun W hW b h1 h2 => hW.block b (by omega)
  clear hb1 g1 g2 hs1
  obtain ⟨p0, p1, o0, o1, o2, o3, o4, o5, o6⟩ := HBX.out W1 (fun _ _ _ => rfl)
  have HPUT : Hid (Calls Try.prog 21 #[.pointer (some ⟨L, 0, none⟩), .agg #[.string xk, .int .u64 xs, .bool xd, .string xv]] W1.drew fun r w' => ∃ ok, r = .returned (.bool ok) ∧ PutAns t T W1.drew L ds ns (xk, xs, xd, xv) ok w') := put_any t T W1.drew L ds ns (xk, xs, xd, xv) ((HP.out.below HB1.out.1).sl.below (Below.refl _ _).drew) ht (by have := HLN.out.2; omega) (by have := HLN.out.1; omega)
  go_wp2
  go_region_law (first
    | (go_simp; go_at_call 21; go_loud (refine HPUT.out.mono ?_; rintro r w5 ⟨ok, rfl, h5⟩; have HPA : Hid (PutAns t T W1.drew L ds ns (xk, xs, xd, xv) ok w5) := h5; have hbox : ∀ b, w.heap.size ≤ b → b < w.heap.size + 2 → w5.heap[b]? = W1.heap[b]? := (fun b h1 h2 => by obtain ⟨T5, ns5, k1, k2, k3⟩ := h5; exact k2.block b (by have := HB1.out.2; show b < W1.heap.size; omega) (by rw [HTZ.out b h1]; omega)); obtain ⟨pp0, pp1, oo0, oo1, oo2, oo3, oo4, oo5, oo6⟩ := HBX.out w5 hbox; clear h5 hbox))
    | (go_simp; go_at_call 40; go_loud (refine (refPut_any w5 R ds (esN ns) (hsN ns) bs (xk, xs, xd, xv) (put_rl HP.out HD1.out HTU.out.1 HPA.out) (by have := HLN.out.1; rw [esN_len]; omega) HLN.out.2).mono ?_; rintro r w6 ⟨ok2, rfl, h6⟩; obtain ⟨hok, hans⟩ := both_put HP.out HD1.out HTU.out.1 HTU.out.2 HPA.out h6; subst hok; have HANS : Hid (PlayAns t u T w L R ds ns w6) := hans; clear h6 hans)))
  all_goals (
    rename Bool => okk
    cases okk <;> (
      go_wp2
      go_ret
      exact ⟨rfl, HANS.out⟩))
end Sk
end Go.Proofs.Ytfomnkkpiflokaa
namespace Go.Proofs.Ytfomnkkpiflokaa
namespace Sk
open Go.RowKit Laws Irw Erw KMath Skm Byt
set_option linter.unusedVariables false
set_option maxRecDepth 100000
set_option linter.unusedSimpArgs false


set_option maxHeartbeats 1000000 in
theorem sameInts_true2 (a b : Option Addr) (ca cb n : Nat) (l : List Int) (w : World) (ha : IsI w a l) (hb : IsI w b l) (hn : l.length = n) (hl : n ≤ 1000000000000000) :
    Calls Try.prog 44 #[.slice a n ca, .slice b n cb] w fun e w' => e = .returned (.bool true) ∧ ∃ n, w' = w.drewN n := by
  have HA : Hid (IsI w a l) := ha
  have HB : Hid (IsI w b l) := hb
  have HNN : Hid (l.length = n) := hn
  clear ha hb hn
  go_enter Try.func44, Try.ntmps44
  go_wp2
  go_loopw [5] (fun i wr => ∃ k m : Nat, k ≤ n ∧ i = .int .i64 k ∧ wr = w.drewN m) (fun i _ => n - (intOf i).toNat)
  case atStart => exact ⟨0, 0, Nat.zero_le _, rfl, rfl⟩
  case round =>
    obtain ⟨k, m, hk, rfl, rfl⟩ := hrel
    by_cases hlt : k < n
    · have hlt' : k < l.length := by rw [HNN.out]; exact hlt
      have hne : l ≠ [] := by intro e; rw [e] at hlt'; simp at hlt'
      obtain ⟨b1, o1, rfl, hr1⟩ := HA.out hne
      obtain ⟨b2, o2, rfl, hr2⟩ := HB.out hne
      have c0 := hr1.cell hlt'
      have e0 := hr2.cell hlt'
      have q1 : (k : Int) < (n : Int) := by omega
      generalize l.getD k 0 = y at *
      clear hne hlt' hr1 hr2
      go_wp2
      go_quiet (fail)
      go_wp2
      go_roundw
      case rel => exact ⟨k + 1, _, by omega, by go_num, rfl⟩
      case measure => simp [intOf]; omega
    · go_wp2
      go_ret
      exact ⟨rfl, _, rfl⟩


set_option maxHeartbeats 8000000 in
theorem plays_seek (t u : Nat) (ht : 0 < t) (htu : t ≠ u) (htu1 : t + 1 ≠ u) (T : Nat → Nat) (w : World) (L R : Nat) (ds : List Nat) (ns : List Nd) (bs : List Nat) (h : Pr t u T w L R ds ns bs) (hTz : ∀ b, w.heap.size ≤ b → T b = 0) (hlen : ns.length ≤ 2932031007401) (hd47 : ds.length ≤ 140737488355328) (kind : Int) (hkind : kind = 2) (sec : Bool) (x : En) (nn : Int) :
    Calls Try.prog 11 #[.agg #[.pointer (some ⟨L, 0, none⟩), .pointer (some ⟨R, 0, none⟩)], .agg #[.int .i64 kind, .bool sec, .string x.1, .int .u64 x.2.1, .bool x.2.2.1, .string x.2.2.2, .int .i64 nn]] w fun e w' => e = .returned (.bool true) ∧ PlayAns t u T w L R ds ns w' := by
  subst hkind
  obtain ⟨xk, xs, xd, xv⟩ := x
  dsimp only
  have HP : Hid (Pr t u T w L R ds ns bs) := h
  have HTZ : Hid (∀ b, w.heap.size ≤ b → T b = 0) := hTz
  have HLN : Hid (ns.length ≤ 2932031007401 ∧ ds.length ≤ 140737488355328) := ⟨hlen, hd47⟩
  have hb1 : Below w.heap.size w ((w.alloc (.cells #[.pointer (some ⟨L, 0, none⟩), .pointer (some ⟨R, 0, none⟩)] 48)).alloc (.cells #[.int .i64 2, .bool sec, .string xk, .int .u64 xs, .bool xd, .string xv, .int .i64 nn] 55)) := ((Below.refl _ _).alloc (Nat.le_refl _) _).alloc (by simp) _
  have g1 : ((w.alloc (.cells #[.pointer (some ⟨L, 0, none⟩), .pointer (some ⟨R, 0, none⟩)] 48)).alloc (.cells #[.int .i64 2, .bool sec, .string xk, .int .u64 xs, .bool xd, .string xv, .int .i64 nn] 55)).heap[w.heap.size]? = some (.cells #[.pointer (some ⟨L, 0, none⟩), .pointer (some ⟨R, 0, none⟩)] 48) := by
    rw [Below.heap_alloc _ _ _ (by simp)]; exact World.alloc_heap_new _ _
  have g2 : ((w.alloc (.cells #[.pointer (some ⟨L, 0, none⟩), .pointer (some ⟨R, 0, none⟩)] 48)).alloc (.cells #[.int .i64 2, .bool sec, .string xk, .int .u64 xs, .bool xd, .string xv, .int .i64 nn] 55)).heap[w.heap.size + 1]? = some (.cells #[.int .i64 2, .bool sec, .string xk, .int .u64 xs, .bool xd, .string xv, .int .i64 nn] 55) := by
    have := World.alloc_heap_new (w.alloc (.cells #[.pointer (some ⟨L, 0, none⟩), .pointer (some ⟨R, 0, none⟩)] 48)) (.cells #[.int .i64 2, .bool sec, .string xk, .int .u64 xs, .bool xd, .string xv, .int .i64 nn] 55)
    rwa [World.size_alloc] at this
  have hs1 : ((w.alloc (.cells #[.pointer (some ⟨L, 0, none⟩), .pointer (some ⟨R, 0, none⟩)] 48)).alloc (.cells #[.int .i64 2, .bool sec, .string xk, .int .u64 xs, .bool xd, .string xv, .int .i64 nn] 55)).heap.size = w.heap.size + 2 := by simp
  have HHI : Hid (∀ b, w.heap.size ≤ b → b < w.heap.size + 2 → True) := fun _ _ _ => trivial
  clear h hlen hd47
  go_enter Try.func11, Try.ntmps11
  go_upto_region 1 with (fail)
  generalize (w.alloc (.cells #[.pointer (some ⟨L, 0, none⟩), .pointer (some ⟨R, 0, none⟩)] 48)).alloc (.cells #[.int .i64 2, .bool sec, .string xk, .int .u64 xs, .bool xd, .string xv, .int .i64 nn] 55) = W1 at *
  have HBX : Hid (∀ W : World, (∀ b, w.heap.size ≤ b → b < w.heap.size + 2 → W.heap[b]? = W1.heap[b]?) → W.cell? ⟨w.heap.size, 0, none⟩ = some (.pointer (some ⟨L, 0, none⟩)) ∧ W.cell? ⟨w.heap.size, 1, none⟩ = some (.pointer (some ⟨R, 0, none⟩)) ∧ W.cell? ⟨w.heap.size + 1, 0, none⟩ = some (.int .i64 2) ∧ W.cell? ⟨w.heap.size + 1, 1, none⟩ = some (.bool sec) ∧ W.cell? ⟨w.heap.size + 1, 2, none⟩ = some (.string xk) ∧ W.cell? ⟨w.heap.size + 1, 3, none⟩ = some (.int .u64 xs) ∧ W.cell? ⟨w.heap.size + 1, 4, none⟩ = some (.bool xd) ∧ W.cell? ⟨w.heap.size + 1, 5, none⟩ = some (.string xv) ∧ W.cell? ⟨w.heap.size + 1, 6, none⟩ = some (.int .i64 nn)) := fun W hW => by
    have k1 := (hW _ (by omega) (by omega)).trans g1
    have k2 := (hW _ (by omega) (by omega)).trans g2
    exact ⟨by rw [cell_of_obj k1]; rfl, by rw [cell_of_obj k1]; rfl, by rw [cell_of_obj k2]; rfl, by rw [cell_of_obj k2]; rfl, by rw [cell_of_obj k2]; rfl, by rw [cell_of_obj k2]; rfl, by rw [cell_of_obj k2]; rfl, by rw [cell_of_obj k2]; rfl, by rw [cell_of_obj k2]; rfl⟩
  have HB1 : Hid (Below w.heap.size w W1 ∧ W1.heap.size = w.heap.size + 2) := ⟨hb1, hs1⟩
  have HD1 : Hid (Below w.heap.size w W1.drew) := hb1.drew
  have HTU : Hid (t ≠ u ∧ t + 1 ≠ u) := ⟨htu, htu1⟩
  have HBU : Hid (∀ W, Below W1.heap.size W1 W → ∀ b, w.heap.size ≤ b → b < w.heap.size + 2 → W.heap[b]? = W1.heap[b]?) := fun W hW b h1 h2 => hW.block b (by omega)
  clear hb1 g1 g2 hs1
  obtain ⟨p0, p1, o0, o1, o2, o3, o4, o5, o6⟩ := HBX.out W1 (fun _ _ _ => rfl)
  obtain ⟨al, hal⟩ : ∃ al, (ns.dropWhile (aheadB xk xs)).map Nd.e = al := ⟨_, rfl⟩
  have HSV : Hid (seekV (ns.dropWhile (aheadB xk xs)) = .tuple #[.agg #[.string (al.getD 0 ez).1, .int .u64 (al.getD 0 ez).2.1, .bool (al.getD 0 ez).2.2.1, .string (al.getD 0 ez).2.2.2], .bool (decide (0 < al.length))]) := SkipSeek.seekV_eq _ hal rfl
  clear hal
  generalize al.getD 0 ez = y at *
  generalize decide (0 < al.length) = bb at *
  obtain ⟨yk, ys, yd, yv⟩ := y
  dsimp only at HSV
  have HSK : Hid (∀ W, Below w.heap.size w W → Calls Try.prog 24 #[.pointer (some ⟨L, 0, none⟩), .string xk, .int .u64 xs] W fun e w' => e = .returned (.tuple #[.agg #[.string yk, .int .u64 ys, .bool yd, .string yv], .bool bb]) ∧ Below W.heap.size W w') := fun W hW => by
    have := seek_any (HP.out.below hW).sl xk xs
    rw [HSV.out] at this
    exact this
  have HRS : Hid (∀ W, Below w.heap.size w W → Calls Try.prog 41 #[.pointer (some ⟨R, 0, none⟩), .string xk, .int .u64 xs] W fun e w' => e = .returned (.tuple #[.agg #[.string yk, .int .u64 ys, .bool yd, .string yv], .bool bb]) ∧ Below W.heap.size W w') := fun W hW => by
    have := refSeek_any W R ds (esN ns) (hsN ns) bs (HP.out.below hW).rl (by have := HLN.out.1; rw [esN_len]; omega) xk xs
    rw [seek_same, HSV.out] at this
    exact this
  clear HSV
  go_wp2_with fail
  refine (HSK.out W1 HB1.out.1).mono ?_
  rintro e w2 ⟨rfl, hb2⟩
  have hc2 : Below w2.heap.size w2 (w2.alloc (.cells #[.string yk, .int .u64 ys, .bool yd, .string yv] 53)) := (Below.refl _ _).alloc (Nat.le_refl _) _
  have g2 : (w2.alloc (.cells #[.string yk, .int .u64 ys, .bool yd, .string yv] 53)).heap[w2.heap.size]? = some (.cells #[.string yk, .int .u64 ys, .bool yd, .string yv] 53) := World.alloc_heap_new _ _
  clear p0 p1 o0 o1 o2 o3 o4 o5 o6
  obtain ⟨p0, p1, o0, o1, o2, o3, o4, o5, o6⟩ := HBX.out _ (HBU.out _ (keepB hc2 hb2))
  have HB2 : Hid (Below W1.heap.size W1 (w2.alloc (.cells #[.string yk, .int .u64 ys, .bool yd, .string yv] 53))) := keepB hc2 hb2
  go_upto_region 6 with (fail)
  clear hc2 hb2
  generalize w2.alloc (.cells #[.string yk, .int .u64 ys, .bool yd, .string yv] 53) = W2 at *
  generalize w2.heap.size = BE at *
  go_wp2_with fail
  refine (HRS.out W2 (keepB HB2.out HB1.out.1)).mono ?_
  rintro e w3 ⟨rfl, hb3⟩
  have hc3 : Below w3.heap.size w3 (w3.alloc (.cells #[.string yk, .int .u64 ys, .bool yd, .string yv] 53)) := (Below.refl _ _).alloc (Nat.le_refl _) _
  have g3 : (w3.alloc (.cells #[.string yk, .int .u64 ys, .bool yd, .string yv] 53)).heap[w3.heap.size]? = some (.cells #[.string yk, .int .u64 ys, .bool yd, .string yv] 53) := World.alloc_heap_new _ _
  have g4 := ((keepB hc3 hb3).block BE (Array.getElem?_eq_some_iff.1 g2).1).trans g2
  have HB3 : Hid (Below w.heap.size w (w3.alloc (.cells #[.string yk, .int .u64 ys, .bool yd, .string yv] 53))) := keepB (keepB (keepB hc3 hb3) HB2.out) HB1.out.1
  clear p0 p1 o0 o1 o2 o3 o4 o5 o6 hc3 hb3
  obtain ⟨c0, c1, c2, c3⟩ := SkipSeek.ent_of_obj (e := (yk, ys, yd, yv)) g3
  obtain ⟨d0, d1, d2, d3⟩ := SkipSeek.ent_of_obj (e := (yk, ys, yd, yv)) g4
  dsimp only at c0 c1 c2 c3 d0 d1 d2 d3
  clear g2 g3 g4
  go_upto_region 7 with (fail)
  generalize w3.alloc (.cells #[.string yk, .int .u64 ys, .bool yd, .string yv] 53) = W3 at *
  generalize w3.heap.size = BG at *
  cases bb <;> (
    go_wp2
    go_ret
    exact ⟨rfl, PlayAns.same HP.out HB3.out⟩)

set_option maxHeartbeats 8000000 in
theorem plays_from (t u : Nat) (ht : 0 < t) (htu : t ≠ u) (htu1 : t + 1 ≠ u) (T : Nat → Nat) (w : World) (L R : Nat) (ds : List Nat) (ns : List Nd) (bs : List Nat) (h : Pr t u T w L R ds ns bs) (hTz : ∀ b, w.heap.size ≤ b → T b = 0) (hlen : ns.length ≤ 2932031007401) (hd47 : ds.length ≤ 140737488355328) (kind : Int) (hkind : kind = 3) (sec : Bool) (x : En) (nn : Int) :
    Calls Try.prog 11 #[.agg #[.pointer (some ⟨L, 0, none⟩), .pointer (some ⟨R, 0, none⟩)], .agg #[.int .i64 kind, .bool sec, .string x.1, .int .u64 x.2.1, .bool x.2.2.1, .string x.2.2.2, .int .i64 nn]] w fun e w' => e = .returned (.bool true) ∧ PlayAns t u T w L R ds ns w' := by
  subst hkind
  obtain ⟨xk, xs, xd, xv⟩ := x
  dsimp only
  have HP : Hid (Pr t u T w L R ds ns bs) := h
  have HTZ : Hid (∀ b, w.heap.size ≤ b → T b = 0) := hTz
  have HLN : Hid (ns.length ≤ 2932031007401 ∧ ds.length ≤ 140737488355328) := ⟨hlen, hd47⟩
  have hb1 : Below w.heap.size w ((w.alloc (.cells #[.pointer (some ⟨L, 0, none⟩), .pointer (some ⟨R, 0, none⟩)] 48)).alloc (.cells #[.int .i64 3, .bool sec, .string xk, .int .u64 xs, .bool xd, .string xv, .int .i64 nn] 55)) := ((Below.refl _ _).alloc (Nat.le_refl _) _).alloc (by simp) _
  have g1 : ((w.alloc (.cells #[.pointer (some ⟨L, 0, none⟩), .pointer (some ⟨R, 0, none⟩)] 48)).alloc (.cells #[.int .i64 3, .bool sec, .string xk, .int .u64 xs, .bool xd, .string xv, .int .i64 nn] 55)).heap[w.heap.size]? = some (.cells #[.pointer (some ⟨L, 0, none⟩), .pointer (some ⟨R, 0, none⟩)] 48) := by
    rw [Below.heap_alloc _ _ _ (by simp)]; exact World.alloc_heap_new _ _
  have g2 : ((w.alloc (.cells #[.pointer (some ⟨L, 0, none⟩), .pointer (some ⟨R, 0, none⟩)] 48)).alloc (.cells #[.int .i64 3, .bool sec, .string xk, .int .u64 xs, .bool xd, .string xv, .int .i64 nn] 55)).heap[w.heap.size + 1]? = some (.cells #[.int .i64 3, .bool sec, .string xk, .int .u64 xs, .bool xd, .string xv, .int .i64 nn] 55) := by
    have := World.alloc_heap_new (w.alloc (.cells #[.pointer (some ⟨L, 0, none⟩), .pointer (some ⟨R, 0, none⟩)] 48)) (.cells #[.int .i64 3, .bool sec, .string xk, .int .u64 xs, .bool xd, .string xv, .int .i64 nn] 55)
    rwa [World.size_alloc] at this
  have hs1 : ((w.alloc (.cells #[.pointer (some ⟨L, 0, none⟩), .pointer (some ⟨R, 0, none⟩)] 48)).alloc (.cells #[.int .i64 3, .bool sec, .string xk, .int .u64 xs, .bool xd, .string xv, .int .i64 nn] 55)).heap.size = w.heap.size + 2 := by simp
  have HHI : Hid (∀ b, w.heap.size ≤ b → b < w.heap.size + 2 → True) := fun _ _ _ => trivial
  clear h hlen hd47
  go_enter Try.func11, Try.ntmps11
  go_upto_region 1 with (fail)
  generalize (w.alloc (.cells #[.pointer (some ⟨L, 0, none⟩), .pointer (some ⟨R, 0, none⟩)] 48)).alloc (.cells #[.int .i64 3, .bool sec, .string xk, .int .u64 xs, .bool xd, .string xv, .int .i64 nn] 55) = W1 at *
  have HBX : Hid (∀ W : World, (∀ b, w.heap.size ≤ b → b < w.heap.size + 2 → W.heap[b]? = W1.heap[b]?) → W.cell? ⟨w.heap.size, 0, none⟩ = some (.pointer (some ⟨L, 0, none⟩)) ∧ W.cell? ⟨w.heap.size, 1, none⟩ = some (.pointer (some ⟨R, 0, none⟩)) ∧ W.cell? ⟨w.heap.size + 1, 0, none⟩ = some (.int .i64 3) ∧ W.cell? ⟨w.heap.size + 1, 1, none⟩ = some (.bool sec) ∧ W.cell? ⟨w.heap.size + 1, 2, none⟩ = some (.string xk) ∧ W.cell? ⟨w.heap.size + 1, 3, none⟩ = some (.int .u64 xs) ∧ W.cell? ⟨w.heap.size + 1, 4, none⟩ = some (.bool xd) ∧ W.cell? ⟨w.heap.size + 1, 5, none⟩ = some (.string xv) ∧ W.cell? ⟨w.heap.size + 1, 6, none⟩ = some (.int .i64 nn)) := fun W hW => by
    have k1 := (hW _ (by omega) (by omega)).trans g1
    have k2 := (hW _ (by omega) (by omega)).trans g2
    exact ⟨by rw [cell_of_obj k1]; rfl, by rw [cell_of_obj k1]; rfl, by rw [cell_of_obj k2]; rfl, by rw [cell_of_obj k2]; rfl, by rw [cell_of_obj k2]; rfl, by rw [cell_of_obj k2]; rfl, by rw [cell_of_obj k2]; rfl, by rw [cell_of_obj k2]; rfl, by rw [cell_of_obj k2]; rfl⟩
  have HB1 : Hid (Below w.heap.size w W1 ∧ W1.heap.size = w.heap.size + 2) := ⟨hb1, hs1⟩
  have HD1 : Hid (Below w.heap.size w W1.drew) := hb1.drew
  have HTU : Hid (t ≠ u ∧ t + 1 ≠ u) := ⟨htu, htu1⟩
  have HBU : Hid (∀ W, Below W1.heap.size W1 W → ∀ b, w.heap.size ≤ b → b < w.heap.size + 2 → W.heap[b]? = W1.heap[b]?) := fun W hW b h1 h2 => hW.block b (by omega)
  clear hb1 g1 g2 hs1
  obtain ⟨p0, p1, o0, o1, o2, o3, o4, o5, o6⟩ := HBX.out W1 (fun _ _ _ => rfl)
  have HWK : Hid (Calls Try.prog 42 #[.agg #[.pointer (some ⟨L, 0, none⟩), .pointer (some ⟨R, 0, none⟩)], .agg #[.int .i64 3, .bool sec, .string xk, .int .u64 xs, .bool xd, .string xv, .int .i64 nn]] W1 fun e w' => e = .returned (.bool true) ∧ Below W1.heap.size W1 w') := walks_any t u T W1 L R ds ns bs (HP.out.below HB1.out.1) (by have := HLN.out.1; omega) 3 sec (xk, xs, xd, xv) nn
  go_wp2_with fail
  refine HWK.out.mono ?_
  rintro e w2 ⟨rfl, hb2⟩
  have HF : Hid (PlayAns t u T w L R ds ns w2) := PlayAns.same HP.out (keepB hb2 HB1.out.1)
  clear hb2 HWK
  go_wp2
  go_ret
  exact ⟨rfl, HF.out⟩

set_option maxHeartbeats 8000000 in
theorem plays_len (t u : Nat) (ht : 0 < t) (htu : t ≠ u) (htu1 : t + 1 ≠ u) (T : Nat → Nat) (w : World) (L R : Nat) (ds : List Nat) (ns : List Nd) (bs : List Nat) (h : Pr t u T w L R ds ns bs) (hTz : ∀ b, w.heap.size ≤ b → T b = 0) (hlen : ns.length ≤ 2932031007401) (hd47 : ds.length ≤ 140737488355328) (kind : Int) (hkind : kind = 4) (sec : Bool) (x : En) (nn : Int) :
    Calls Try.prog 11 #[.agg #[.pointer (some ⟨L, 0, none⟩), .pointer (some ⟨R, 0, none⟩)], .agg #[.int .i64 kind, .bool sec, .string x.1, .int .u64 x.2.1, .bool x.2.2.1, .string x.2.2.2, .int .i64 nn]] w fun e w' => e = .returned (.bool true) ∧ PlayAns t u T w L R ds ns w' := by
  subst hkind
  obtain ⟨xk, xs, xd, xv⟩ := x
  dsimp only
  have HP : Hid (Pr t u T w L R ds ns bs) := h
  have HTZ : Hid (∀ b, w.heap.size ≤ b → T b = 0) := hTz
  have HLN : Hid (ns.length ≤ 2932031007401 ∧ ds.length ≤ 140737488355328) := ⟨hlen, hd47⟩
  have hb1 : Below w.heap.size w ((w.alloc (.cells #[.pointer (some ⟨L, 0, none⟩), .pointer (some ⟨R, 0, none⟩)] 48)).alloc (.cells #[.int .i64 4, .bool sec, .string xk, .int .u64 xs, .bool xd, .string xv, .int .i64 nn] 55)) := ((Below.refl _ _).alloc (Nat.le_refl _) _).alloc (by simp) _
  have g1 : ((w.alloc (.cells #[.pointer (some ⟨L, 0, none⟩), .pointer (some ⟨R, 0, none⟩)] 48)).alloc (.cells #[.int .i64 4, .bool sec, .string xk, .int .u64 xs, .bool xd, .string xv, .int .i64 nn] 55)).heap[w.heap.size]? = some (.cells #[.pointer (some ⟨L, 0, none⟩), .pointer (some ⟨R, 0, none⟩)] 48) := by
    rw [Below.heap_alloc _ _ _ (by simp)]; exact World.alloc_heap_new _ _
  have g2 : ((w.alloc (.cells #[.pointer (some ⟨L, 0, none⟩), .pointer (some ⟨R, 0, none⟩)] 48)).alloc (.cells #[.int .i64 4, .bool sec, .string xk, .int .u64 xs, .bool xd, .string xv, .int .i64 nn] 55)).heap[w.heap.size + 1]? = some (.cells #[.int .i64 4, .bool sec, .string xk, .int .u64 xs, .bool xd, .string xv, .int .i64 nn] 55) := by
    have := World.alloc_heap_new (w.alloc (.cells #[.pointer (some ⟨L, 0, none⟩), .pointer (some ⟨R, 0, none⟩)] 48)) (.cells #[.int .i64 4, .bool sec, .string xk, .int .u64 xs, .bool xd, .string xv, .int .i64 nn] 55)
    rwa [World.size_alloc] at this
  have hs1 : ((w.alloc (.cells #[.pointer (some ⟨L, 0, none⟩), .pointer (some ⟨R, 0, none⟩)] 48)).alloc (.cells #[.int .i64 4, .bool sec, .string xk, .int .u64 xs, .bool xd, .string xv, .int .i64 nn] 55)).heap.size = w.heap.size + 2 := by simp
  have HHI : Hid (∀ b, w.heap.size ≤ b → b < w.heap.size + 2 → True) := fun _ _ _ => trivial
  clear h hlen hd47
  go_enter Try.func11, Try.ntmps11
  go_upto_region 1 with (fail)
  generalize (w.alloc (.cells #[.pointer (some ⟨L, 0, none⟩), .pointer (some ⟨R, 0, none⟩)] 48)).alloc (.cells #[.int .i64 4, .bool sec, .string xk, .int .u64 xs, .bool xd, .string xv, .int .i64 nn] 55) = W1 at *
  have HBX : Hid (∀ W : World, (∀ b, w.heap.size ≤ b → b < w.heap.size + 2 → W.heap[b]? = W1.heap[b]?) → W.cell? ⟨w.heap.size, 0, none⟩ = some (.pointer (some ⟨L, 0, none⟩)) ∧ W.cell? ⟨w.heap.size, 1, none⟩ = some (.pointer (some ⟨R, 0, none⟩)) ∧ W.cell? ⟨w.heap.size + 1, 0, none⟩ = some (.int .i64 4) ∧ W.cell? ⟨w.heap.size + 1, 1, none⟩ = some (.bool sec) ∧ W.cell? ⟨w.heap.size + 1, 2, none⟩ = some (.string xk) ∧ W.cell? ⟨w.heap.size + 1, 3, none⟩ = some (.int .u64 xs) ∧ W.cell? ⟨w.heap.size + 1, 4, none⟩ = some (.bool xd) ∧ W.cell? ⟨w.heap.size + 1, 5, none⟩ = some (.string xv) ∧ W.cell? ⟨w.heap.size + 1, 6, none⟩ = some (.int .i64 nn)) := fun W hW => by
    have k1 := (hW _ (by omega) (by omega)).trans g1
    have k2 := (hW _ (by omega) (by omega)).trans g2
    exact ⟨by rw [cell_of_obj k1]; rfl, by rw [cell_of_obj k1]; rfl, by rw [cell_of_obj k2]; rfl, by rw [cell_of_obj k2]; rfl, by rw [cell_of_obj k2]; rfl, by rw [cell_of_obj k2]; rfl, by rw [cell_of_obj k2]; rfl, by rw [cell_of_obj k2]; rfl, by rw [cell_of_obj k2]; rfl⟩
  have HB1 : Hid (Below w.heap.size w W1 ∧ W1.heap.size = w.heap.size + 2) := ⟨hb1, hs1⟩
  have HD1 : Hid (Below w.heap.size w W1.drew) := hb1.drew
  have HTU : Hid (t ≠ u ∧ t + 1 ≠ u) := ⟨htu, htu1⟩
  have HBU : Hid (∀ W, Below W1.heap.size W1 W → ∀ b, w.heap.size ≤ b → b < w.heap.size + 2 → W.heap[b]? = W1.heap[b]?) := fun W hW b h1 h2 => hW.block b (by omega)
  clear hb1 g1 g2 hs1
  obtain ⟨p0, p1, o0, o1, o2, o3, o4, o5, o6⟩ := HBX.out W1 (fun _ _ _ => rfl)
  have HL1 : Hid (∀ W, Below w.heap.size w W → Calls Try.prog 19 #[.pointer (some ⟨L, 0, none⟩)] W fun e w' => e = .returned (.int .i64 (ns.length : Int)) ∧ w' = W) := fun W hW => len_any t T W L ds ns (HP.out.below hW).sl
  have HL2 : Hid (∀ W, Below w.heap.size w W → Calls Try.prog 43 #[.pointer (some ⟨R, 0, none⟩)] W fun e w' => e = .returned (.int .i64 (ns.length : Int)) ∧ w' = W) := fun W hW => by
    have := refLen_any W R ds (esN ns) (hsN ns) bs (HP.out.below hW).rl
    rw [esN_len] at this
    exact this
  generalize (ns.length : Int) = nl at *
  go_wp2
  go_quiet (first
    | (go_at_call 19; exact Calls.quiet_of_same (HL1.out _ (below_drewN HB1.out.1 _)))
    | (go_at_call 43; exact Calls.quiet_of_same (HL2.out _ (below_drewN HB1.out.1 _))))
  go_wp2
  go_ret
  exact ⟨rfl, PlayAns.same HP.out (below_drewN HB1.out.1 _)⟩

set_option maxHeartbeats 8000000 in
theorem plays_tow (t u : Nat) (ht : 0 < t) (htu : t ≠ u) (htu1 : t + 1 ≠ u) (T : Nat → Nat) (w : World) (L R : Nat) (ds : List Nat) (ns : List Nd) (bs : List Nat) (h : Pr t u T w L R ds ns bs) (hTz : ∀ b, w.heap.size ≤ b → T b = 0) (hlen : ns.length ≤ 2932031007401) (hd47 : ds.length ≤ 140737488355328) (kind : Int) (hkind : kind = 5) (sec : Bool) (x : En) (nn : Int) :
    Calls Try.prog 11 #[.agg #[.pointer (some ⟨L, 0, none⟩), .pointer (some ⟨R, 0, none⟩)], .agg #[.int .i64 kind, .bool sec, .string x.1, .int .u64 x.2.1, .bool x.2.2.1, .string x.2.2.2, .int .i64 nn]] w fun e w' => e = .returned (.bool true) ∧ PlayAns t u T w L R ds ns w' := by
  subst hkind
  obtain ⟨xk, xs, xd, xv⟩ := x
  dsimp only
  have HP : Hid (Pr t u T w L R ds ns bs) := h
  have HTZ : Hid (∀ b, w.heap.size ≤ b → T b = 0) := hTz
  have HLN : Hid (ns.length ≤ 2932031007401 ∧ ds.length ≤ 140737488355328) := ⟨hlen, hd47⟩
  have hb1 : Below w.heap.size w ((w.alloc (.cells #[.pointer (some ⟨L, 0, none⟩), .pointer (some ⟨R, 0, none⟩)] 48)).alloc (.cells #[.int .i64 5, .bool sec, .string xk, .int .u64 xs, .bool xd, .string xv, .int .i64 nn] 55)) := ((Below.refl _ _).alloc (Nat.le_refl _) _).alloc (by simp) _
  have g1 : ((w.alloc (.cells #[.pointer (some ⟨L, 0, none⟩), .pointer (some ⟨R, 0, none⟩)] 48)).alloc (.cells #[.int .i64 5, .bool sec, .string xk, .int .u64 xs, .bool xd, .string xv, .int .i64 nn] 55)).heap[w.heap.size]? = some (.cells #[.pointer (some ⟨L, 0, none⟩), .pointer (some ⟨R, 0, none⟩)] 48) := by
    rw [Below.heap_alloc _ _ _ (by simp)]; exact World.alloc_heap_new _ _
  have g2 : ((w.alloc (.cells #[.pointer (some ⟨L, 0, none⟩), .pointer (some ⟨R, 0, none⟩)] 48)).alloc (.cells #[.int .i64 5, .bool sec, .string xk, .int .u64 xs, .bool xd, .string xv, .int .i64 nn] 55)).heap[w.heap.size + 1]? = some (.cells #[.int .i64 5, .bool sec, .string xk, .int .u64 xs, .bool xd, .string xv, .int .i64 nn] 55) := by
    have := World.alloc_heap_new (w.alloc (.cells #[.pointer (some ⟨L, 0, none⟩), .pointer (some ⟨R, 0, none⟩)] 48)) (.cells #[.int .i64 5, .bool sec, .string xk, .int .u64 xs, .bool xd, .string xv, .int .i64 nn] 55)
    rwa [World.size_alloc] at this
  have hs1 : ((w.alloc (.cells #[.pointer (some ⟨L, 0, none⟩), .pointer (some ⟨R, 0, none⟩)] 48)).alloc (.cells #[.int .i64 5, .bool sec, .string xk, .int .u64 xs, .bool xd, .string xv, .int .i64 nn] 55)).heap.size = w.heap.size + 2 := by simp
  have HHI : Hid (∀ b, w.heap.size ≤ b → b < w.heap.size + 2 → True) := fun _ _ _ => trivial
  clear h hlen hd47
  go_enter Try.func11, Try.ntmps11
  go_upto_region 1 with (fail)
  generalize (w.alloc (.cells #[.pointer (some ⟨L, 0, none⟩), .pointer (some ⟨R, 0, none⟩)] 48)).alloc (.cells #[.int .i64 5, .bool sec, .string xk, .int .u64 xs, .bool xd, .string xv, .int .i64 nn] 55) = W1 at *
  have HBX : Hid (∀ W : World, (∀ b, w.heap.size ≤ b → b < w.heap.size + 2 → W.heap[b]? = W1.heap[b]?) → W.cell? ⟨w.heap.size, 0, none⟩ = some (.pointer (some ⟨L, 0, none⟩)) ∧ W.cell? ⟨w.heap.size, 1, none⟩ = some (.pointer (some ⟨R, 0, none⟩)) ∧ W.cell? ⟨w.heap.size + 1, 0, none⟩ = some (.int .i64 5) ∧ W.cell? ⟨w.heap.size + 1, 1, none⟩ = some (.bool sec) ∧ W.cell? ⟨w.heap.size + 1, 2, none⟩ = some (.string xk) ∧ W.cell? ⟨w.heap.size + 1, 3, none⟩ = some (.int .u64 xs) ∧ W.cell? ⟨w.heap.size + 1, 4, none⟩ = some (.bool xd) ∧ W.cell? ⟨w.heap.size + 1, 5, none⟩ = some (.string xv) ∧ W.cell? ⟨w.heap.size + 1, 6, none⟩ = some (.int .i64 nn)) := fun W hW => by
    have k1 := (hW _ (by omega) (by omega)).trans g1
    have k2 := (hW _ (by omega) (by omega)).trans g2
    exact ⟨by rw [cell_of_obj k1]; rfl, by rw [cell_of_obj k1]; rfl, by rw [cell_of_obj k2]; rfl, by rw [cell_of_obj k2]; rfl, by rw [cell_of_obj k2]; rfl, by rw [cell_of_obj k2]; rfl, by rw [cell_of_obj k2]; rfl, by rw [cell_of_obj k2]; rfl, by rw [cell_of_obj k2]; rfl⟩
  have HB1 : Hid (Below w.heap.size w W1 ∧ W1.heap.size = w.heap.size + 2) := ⟨hb1, hs1⟩
  have HD1 : Hid (Below w.heap.size w W1.drew) := hb1.drew
  have HTU : Hid (t ≠ u ∧ t + 1 ≠ u) := ⟨htu, htu1⟩
  have HBU : Hid (∀ W, Below W1.heap.size W1 W → ∀ b, w.heap.size ≤ b → b < w.heap.size + 2 → W.heap[b]? = W1.heap[b]?) := fun W hW b h1 h2 => hW.block b (by omega)
  clear hb1 g1 g2 hs1
  obtain ⟨p0, p1, o0, o1, o2, o3, o4, o5, o6⟩ := HBX.out W1 (fun _ _ _ => rfl)
  obtain ⟨NL, hNL⟩ : ∃ NL, ns.length = NL := ⟨_, rfl⟩
  have HNL : Hid (ns.length = NL ∧ (hsN ns).length = NL ∧ NL ≤ 1000000000000000) := ⟨hNL, by rw [hsN_len]; exact hNL, by have := HLN.out.1; omega⟩
  have HT1 : Hid (∀ W, Below w.heap.size w W → Calls Try.prog 22 #[.pointer (some ⟨L, 0, none⟩)] W fun e w' => ∃ g, e = .returned (.slice (some ⟨g, 0, none⟩) NL NL) ∧ Below W.heap.size W w' ∧ IRow w' g 0 (hsN ns)) := fun W hW => towers_any (HP.out.below hW).sl hNL (by have := HLN.out.1; omega)
  have HT2 : Hid (∀ W, Below w.heap.size w W → Calls Try.prog 45 #[.pointer (some ⟨R, 0, none⟩)] W fun e w' => ∃ a c, e = .returned (.slice a NL c) ∧ IsI w' a (hsN ns) ∧ Below W.heap.size W w') := fun W hW => by
    have := refTowers_any W R ds (esN ns) (hsN ns) bs (HP.out.below hW).rl (by have := HLN.out.1; rw [esN_len]; omega)
    rw [HNL.out.2.1] at this
    exact this
  clear hNL
  go_wp2
  go_region_law (first
    | (go_simp; go_at_call 22; go_loud (refine (HT1.out _ HD1.out).mono ?_; rintro e w2 ⟨g, rfl, hb2, hg2⟩; have HG2 := HID hg2; have HB2 := HID hb2; obtain ⟨pp0, pp1, oo0, oo1, oo2, oo3, oo4, oo5, oo6⟩ := HBX.out w2 (HBU.out w2 ((Below.refl _ _).drew.trans hb2)); clear hg2 hb2))
    | (go_simp; go_at_call 45; go_loud (refine (HT2.out w2 (keepB ((Below.refl _ _).drew.trans HB2.out) HB1.out.1)).mono ?_; rintro e w3 ⟨a3, c3, rfl, hi3, hb3⟩; have HI3 := HID hi3; have HB3 := HID hb3; clear hi3 hb3))
    | (go_simp; go_at_call 44; go_loud (refine (sameInts_true2 _ a3 NL c3 NL (hsN ns) w3 ((IsI.of HG2.out).below HB3.out) HI3.out HNL.out.2.1 HNL.out.2.2).mono ?_; rintro e w4 ⟨rfl, n4, hw4⟩; have HF : Hid (PlayAns t u T w L R ds ns w4) := PlayAns.same HP.out (by rw [hw4]; exact below_drewN (keepB (keepB HB3.out ((Below.refl _ _).drew.trans HB2.out)) HB1.out.1) _); clear hw4)))
  all_goals (
    go_wp2
    go_ret
    exact ⟨rfl, HF.out⟩)

set_option maxHeartbeats 8000000 in
theorem plays_not (t u : Nat) (ht : 0 < t) (htu : t ≠ u) (htu1 : t + 1 ≠ u) (T : Nat → Nat) (w : World) (L R : Nat) (ds : List Nat) (ns : List Nd) (bs : List Nat) (h : Pr t u T w L R ds ns bs) (hTz : ∀ b, w.heap.size ≤ b → T b = 0) (hlen : ns.length ≤ 2932031007401) (hd47 : ds.length ≤ 140737488355328) (kind : Int) (h1 : (kind == 1) = false) (h2 : (kind == 2) = false) (h3 : (kind == 3) = false) (h4 : (kind == 4) = false) (h5 : (kind == 5) = false) (sec : Bool) (x : En) (nn : Int) :
    Calls Try.prog 11 #[.agg #[.pointer (some ⟨L, 0, none⟩), .pointer (some ⟨R, 0, none⟩)], .agg #[.int .i64 kind, .bool sec, .string x.1, .int .u64 x.2.1, .bool x.2.2.1, .string x.2.2.2, .int .i64 nn]] w fun e w' => e = .returned (.bool true) ∧ PlayAns t u T w L R ds ns w' := by
  obtain ⟨xk, xs, xd, xv⟩ := x
  dsimp only
  have HP : Hid (Pr t u T w L R ds ns bs) := h
  have HTZ : Hid (∀ b, w.heap.size ≤ b → T b = 0) := hTz
  have HLN : Hid (ns.length ≤ 2932031007401 ∧ ds.length ≤ 140737488355328) := ⟨hlen, hd47⟩
  have hb1 : Below w.heap.size w ((w.alloc (.cells #[.pointer (some ⟨L, 0, none⟩), .pointer (some ⟨R, 0, none⟩)] 48)).alloc (.cells #[.int .i64 kind, .bool sec, .string xk, .int .u64 xs, .bool xd, .string xv, .int .i64 nn] 55)) := ((Below.refl _ _).alloc (Nat.le_refl _) _).alloc (by simp) _
  have g1 : ((w.alloc (.cells #[.pointer (some ⟨L, 0, none⟩), .pointer (some ⟨R, 0, none⟩)] 48)).alloc (.cells #[.int .i64 kind, .bool sec, .string xk, .int .u64 xs, .bool xd, .string xv, .int .i64 nn] 55)).heap[w.heap.size]? = some (.cells #[.pointer (some ⟨L, 0, none⟩), .pointer (some ⟨R, 0, none⟩)] 48) := by
    rw [Below.heap_alloc _ _ _ (by simp)]; exact World.alloc_heap_new _ _
  have g2 : ((w.alloc (.cells #[.pointer (some ⟨L, 0, none⟩), .pointer (some ⟨R, 0, none⟩)] 48)).alloc (.cells #[.int .i64 kind, .bool sec, .string xk, .int .u64 xs, .bool xd, .string xv, .int .i64 nn] 55)).heap[w.heap.size + 1]? = some (.cells #[.int .i64 kind, .bool sec, .string xk, .int .u64 xs, .bool xd, .string xv, .int .i64 nn] 55) := by
    have := World.alloc_heap_new (w.alloc (.cells #[.pointer (some ⟨L, 0, none⟩), .pointer (some ⟨R, 0, none⟩)] 48)) (.cells #[.int .i64 kind, .bool sec, .string xk, .int .u64 xs, .bool xd, .string xv, .int .i64 nn] 55)
    rwa [World.size_alloc] at this
  have hs1 : ((w.alloc (.cells #[.pointer (some ⟨L, 0, none⟩), .pointer (some ⟨R, 0, none⟩)] 48)).alloc (.cells #[.int .i64 kind, .bool sec, .string xk, .int .u64 xs, .bool xd, .string xv, .int .i64 nn] 55)).heap.size = w.heap.size + 2 := by simp
  have HHI : Hid (∀ b, w.heap.size ≤ b → b < w.heap.size + 2 → True) := fun _ _ _ => trivial
  clear h hlen hd47
  go_enter Try.func11, Try.ntmps11
  go_upto_region 1 with (fail)
  generalize (w.alloc (.cells #[.pointer (some ⟨L, 0, none⟩), .pointer (some ⟨R, 0, none⟩)] 48)).alloc (.cells #[.int .i64 kind, .bool sec, .string xk, .int .u64 xs, .bool xd, .string xv, .int .i64 nn] 55) = W1 at *
  have HBX : Hid (∀ W : World, (∀ b, w.heap.size ≤ b → b < w.heap.size + 2 → W.heap[b]? = W1.heap[b]?) → W.cell? ⟨w.heap.size, 0, none⟩ = some (.pointer (some ⟨L, 0, none⟩)) ∧ W.cell? ⟨w.heap.size, 1, none⟩ = some (.pointer (some ⟨R, 0, none⟩)) ∧ W.cell? ⟨w.heap.size + 1, 0, none⟩ = some (.int .i64 kind) ∧ W.cell? ⟨w.heap.size + 1, 1, none⟩ = some (.bool sec) ∧ W.cell? ⟨w.heap.size + 1, 2, none⟩ = some (.string xk) ∧ W.cell? ⟨w.heap.size + 1, 3, none⟩ = some (.int .u64 xs) ∧ W.cell? ⟨w.heap.size + 1, 4, none⟩ = some (.bool xd) ∧ W.cell? ⟨w.heap.size + 1, 5, none⟩ = some (.string xv) ∧ W.cell? ⟨w.heap.size + 1, 6, none⟩ = some (.int .i64 nn)) := fun W hW => by
    have k1 := (hW _ (by omega) (by omega)).trans g1
    have k2 := (hW _ (by omega) (by omega)).trans g2
    exact ⟨by rw [cell_of_obj k1]; rfl, by rw [cell_of_obj k1]; rfl, by rw [cell_of_obj k2]; rfl, by rw [cell_of_obj k2]; rfl, by rw [cell_of_obj k2]; rfl, by rw [cell_of_obj k2]; rfl, by rw [cell_of_obj k2]; rfl, by rw [cell_of_obj k2]; rfl, by rw [cell_of_obj k2]; rfl⟩
  have HB1 : Hid (Below w.heap.size w W1 ∧ W1.heap.size = w.heap.size + 2) := ⟨hb1, hs1⟩
  have HD1 : Hid (Below w.heap.size w W1.drew) := hb1.drew
  have HTU : Hid (t ≠ u ∧ t + 1 ≠ u) := ⟨htu, htu1⟩
  have HBU : Hid (∀ W, Below W1.heap.size W1 W → ∀ b, w.heap.size ≤ b → b < w.heap.size + 2 → W.heap[b]? = W1.heap[b]?) := fun W hW b h1 h2 => hW.block b (by omega)
  clear hb1 g1 g2 hs1
  obtain ⟨p0, p1, o0, o1, o2, o3, o4, o5, o6⟩ := HBX.out W1 (fun _ _ _ => rfl)
  have HF : Hid (PlayAns t u T w L R ds ns W1) := PlayAns.same HP.out HB1.out.1
  go_wp2
  go_ret
  exact ⟨rfl, HF.out⟩

theorem plays_any (t u : Nat) (ht : 0 < t) (htu : t ≠ u) (htu1 : t + 1 ≠ u) (T : Nat → Nat) (w : World) (L R : Nat) (ds : List Nat) (ns : List Nd) (bs : List Nat) (h : Pr t u T w L R ds ns bs) (hTz : ∀ b, w.heap.size ≤ b → T b = 0) (hlen : ns.length ≤ 2932031007401) (hd47 : ds.length ≤ 140737488355328) (kind : Int) (sec : Bool) (x : En) (nn : Int) :
    Calls Try.prog 11 #[.agg #[.pointer (some ⟨L, 0, none⟩), .pointer (some ⟨R, 0, none⟩)], .agg #[.int .i64 kind, .bool sec, .string x.1, .int .u64 x.2.1, .bool x.2.2.1, .string x.2.2.2, .int .i64 nn]] w fun e w' => e = .returned (.bool true) ∧ PlayAns t u T w L R ds ns w' := by
  by_cases h1 : kind = 1
  · exact plays_put t u ht htu htu1 T w L R ds ns bs h hTz hlen hd47 kind h1 sec x nn
  by_cases h2 : kind = 2
  · exact plays_seek t u ht htu htu1 T w L R ds ns bs h hTz hlen hd47 kind h2 sec x nn
  by_cases h3 : kind = 3
  · exact plays_from t u ht htu htu1 T w L R ds ns bs h hTz hlen hd47 kind h3 sec x nn
  by_cases h4 : kind = 4
  · exact plays_len t u ht htu htu1 T w L R ds ns bs h hTz hlen hd47 kind h4 sec x nn
  by_cases h5 : kind = 5
  · exact plays_tow t u ht htu htu1 T w L R ds ns bs h hTz hlen hd47 kind h5 sec x nn
  exact plays_not t u ht htu htu1 T w L R ds ns bs h hTz hlen hd47 kind (by simpa using h1) (by simpa using h2) (by simpa using h3) (by simpa using h4) (by simpa using h5) sec x nn
end Sk
end Go.Proofs.Ytfomnkkpiflokaa
