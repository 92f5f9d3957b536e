import Derived.Test.YtfomnkkpiflokaaPa2
import Derived.Deep.RegionLaw
import Derived.Deep.RegionHeld3
namespace Go.Proofs.Ytfomnkkpiflokaa
namespace Sk
open Go.RowKit Laws Irw Erw KMath Skm Byt
set_option linter.unusedVariables false
set_option maxRecDepth 100000
set_option linter.unusedSimpArgs false

/-- what a call of a pair leaves -/
def PlayAns (t u : Nat) (T : Nat → Nat) (w : World) (L R : Nat) (ds : List Nat) (ns : List Nd) (w' : World) : Prop :=
  ∃ T' ns' bs', Pr t u T' w' L R ds ns' bs' ∧ Goes (fun z => z = t ∨ z = u) T w T' w' ∧ ns'.length ≤ ns.length + 1
def retag (A B u : Nat) (T : Nat → Nat) (b : Nat) : Nat := if A ≤ b ∧ b < B then u else T b
theorem goes_retag {T : Nat → Nat} {w w' : World} {R u : Nat} (hk : Keep [R] w w') (hR : T R = u) : Goes (· = u) T w (retag w.heap.size w'.heap.size u T) w' :=
  ⟨hk.os, hk.tape, hk.output, hk.size, fun b hb hn => hk.block b hb (by intro h; simp at h; subst h; exact hn hR), fun b hb _ => by unfold retag; rw [if_neg (by omega)], fun b hb h0 => by unfold retag; rw [if_neg (by omega)]; exact h0⟩
theorem PlayAns.same {t u : Nat} {T : Nat → Nat} {w w' : World} {L R : Nat} {ds : List Nat} {ns : List Nd} {bs : List Nat} (h : Pr t u T w L R ds ns bs) (hb : Below w.heap.size w w') : PlayAns t u T w L R ds ns w' :=
  ⟨T, ns, bs, h.below hb, Goes.below hb, by omega⟩
theorem put_rl {t u : Nat} {T : Nat → Nat} {w W1 w5 : World} {L R : Nat} {ds : List Nat} {ns : List Nd} {bs : List Nat} {x : En} {ok : Bool} (h : Pr t u T w L R ds ns bs) (hb : Below w.heap.size w W1) (htu : t ≠ u) (h5 : PutAns t T W1 L ds ns x ok w5) : Rl w5 R ds (esN ns) (hsN ns) bs := by
  obtain ⟨T5, ns5, k1, k2, k3⟩ := h5
  have hP1 := h.below hb
  exact hP1.rl.same k2.size (k2.block _ hP1.rl.lt (by rw [hP1.tR]; exact fun e => htu e.symm)) (fun b hbm => k2.block _ (hP1.rl.low b hbm).1 (by rw [hP1.tb b hbm]; exact fun e => htu e.symm))
/-- both Puts, one behind the other -/
theorem both_put {t u : Nat} {T : Nat → Nat} {w W1 w5 w6 : World} {L R : Nat} {ds : List Nat} {ns : List Nd} {bs : List Nat} {x : En} {ok ok2 : Bool} (h : Pr t u T w L R ds ns bs) (hb : Below w.heap.size w W1) (htu : t ≠ u) (htu1 : t + 1 ≠ u) (h5 : PutAns t T W1 L ds ns x ok w5)
    (h6 : RPutAns w5 R ds (esN ns) (hsN ns) bs x ok2 w6) : ok2 = ok ∧ PlayAns t u T w L R ds ns w6 := by
  obtain ⟨T5, ns5, k1, k2, k3⟩ := h5
  have hP1 := h.below hb
  have hrl5 : Rl w5 R ds (esN ns) (hsN ns) bs := hP1.rl.same k2.size (k2.block _ hP1.rl.lt (by rw [hP1.tR]; exact fun e => htu e.symm)) (fun b hbm => k2.block _ (hP1.rl.low b hbm).1 (by rw [hP1.tb b hbm]; exact fun e => htu e.symm))
  have tR5 : T5 R = u := (k2.tag _ hP1.rl.lt (by rw [hP1.tR]; exact fun e => htu e.symm)).trans hP1.tR
  have tb5 : ∀ b ∈ bs, T5 b = u := fun b hbm => (k2.tag _ (hP1.rl.low b hbm).1 (by rw [hP1.tb b hbm]; exact fun e => htu e.symm)).trans (hP1.tb b hbm)
  obtain ⟨es6, hs6, bs6, m1, m2, m3, m4⟩ := h6
  have hsame := put_same hP1.sl.sorted k1.sorted k3
  have hok : ok2 = ok ∧ es6 = esN ns5 ∧ hs6 = hsN ns5 := by
    rcases hsame with ⟨a1, a2, a3, a4⟩ | ⟨a1, a2, a3, a4⟩
    · rcases m4 with ⟨b1, b2, b3, b4⟩ | ⟨b1, b2, b3, b4⟩
      · exact ⟨by rw [a1, b1], by rw [b3, a3], by rw [b4, a4]⟩
      · exact absurd a2 b2
    · rcases m4 with ⟨b1, b2, b3, b4⟩ | ⟨b1, b2, b3, b4⟩
      · exact absurd b2 a2
      · exact ⟨by rw [a1, b1], by rw [b3, a3], by rw [b4, a4]⟩
  obtain ⟨rfl, rfl, rfl⟩ := hok
  refine ⟨rfl, retag w5.heap.size w6.heap.size u T5, ns5, bs6, ⟨k1.goes (goes_retag m2 tR5) htu htu1, m1, ?_, fun b hb6 => ?_⟩, ?_, ?_⟩
  · have := hrl5.lt
    unfold retag; rw [if_neg (by omega)]; exact tR5
  · unfold retag
    rcases m3 b hb6 with h7 | h7
    · have := (hrl5.low b h7).1
      rw [if_neg (by omega)]; exact tb5 b h7
    · rw [if_pos ⟨h7, (m1.low b hb6).1⟩]
  · exact ((Goes.below hb).trans (k2.mono fun z hz => .inl hz)).trans ((goes_retag m2 tR5).mono fun z hz => .inr hz)
  · rcases k3 with ⟨_, rfl, _⟩ | ⟨_, _, pre, post, b, e1, e2⟩
    · omega
    · rw [e2, e1]; simp; omega

set_option maxHeartbeats 8000000 in
theorem plays_put (t u : Nat) (ht : 0 < t) (htu : t ≠ u) (htu1 : t + 1 ≠ u) (T : Nat → Nat) (w : World) (L R : Nat) (ds : List Nat) (ns : List Nd) (bs : List Nat) (h : Pr t u T w L R ds ns bs) (hTz : ∀ b, w.heap.size ≤ b → T b = 0) (hlen : ns.length ≤ 2932031007401) (hd47 : ds.length ≤ 140737488355328) (kind : Int) (hkind : kind = 1) (sec : Bool) (x : En) (nn : Int) :
    Calls Try.prog 11 #[.agg #[.pointer (some ⟨L, 0, none⟩), .pointer (some ⟨R, 0, none⟩)], .agg #[.int .i64 kind, .bool sec, .string x.1, .int .u64 x.2.1, .bool x.2.2.1, .string x.2.2.2, .int .i64 nn]] w fun e w' => e = .returned (.bool true) ∧ PlayAns t u T w L R ds ns w' := by
  subst hkind
  obtain ⟨xk, xs, xd, xv⟩ := x
  dsimp only
  have HP : Hid (Pr t u T w L R ds ns bs) := h
  have HTZ : Hid (∀ b, w.heap.size ≤ b → T b = 0) := hTz
  have HLN : Hid (ns.length ≤ 2932031007401 ∧ ds.length ≤ 140737488355328) := ⟨hlen, hd47⟩
  have hb1 : Below w.heap.size w ((w.alloc (.cells #[.pointer (some ⟨L, 0, none⟩), .pointer (some ⟨R, 0, none⟩)] 48)).alloc (.cells #[.int .i64 1, .bool sec, .string xk, .int .u64 xs, .bool xd, .string xv, .int .i64 nn] 55)) := ((Below.refl _ _).alloc (Nat.le_refl _) _).alloc (by simp) _
  have g1 : ((w.alloc (.cells #[.pointer (some ⟨L, 0, none⟩), .pointer (some ⟨R, 0, none⟩)] 48)).alloc (.cells #[.int .i64 1, .bool sec, .string xk, .int .u64 xs, .bool xd, .string xv, .int .i64 nn] 55)).heap[w.heap.size]? = some (.cells #[.pointer (some ⟨L, 0, none⟩), .pointer (some ⟨R, 0, none⟩)] 48) := by
    rw [Below.heap_alloc _ _ _ (by simp)]; exact World.alloc_heap_new _ _
  have g2 : ((w.alloc (.cells #[.pointer (some ⟨L, 0, none⟩), .pointer (some ⟨R, 0, none⟩)] 48)).alloc (.cells #[.int .i64 1, .bool sec, .string xk, .int .u64 xs, .bool xd, .string xv, .int .i64 nn] 55)).heap[w.heap.size + 1]? = some (.cells #[.int .i64 1, .bool sec, .string xk, .int .u64 xs, .bool xd, .string xv, .int .i64 nn] 55) := by
    have := World.alloc_heap_new (w.alloc (.cells #[.pointer (some ⟨L, 0, none⟩), .pointer (some ⟨R, 0, none⟩)] 48)) (.cells #[.int .i64 1, .bool sec, .string xk, .int .u64 xs, .bool xd, .string xv, .int .i64 nn] 55)
    rwa [World.size_alloc] at this
  have hs1 : ((w.alloc (.cells #[.pointer (some ⟨L, 0, none⟩), .pointer (some ⟨R, 0, none⟩)] 48)).alloc (.cells #[.int .i64 1, .bool sec, .string xk, .int .u64 xs, .bool xd, .string xv, .int .i64 nn] 55)).heap.size = w.heap.size + 2 := by simp
  have HHI : Hid (∀ b, w.heap.size ≤ b → b < w.heap.size + 2 → True) := fun _ _ _ => trivial
  clear h hlen hd47
  go_enter Try.func11, Try.ntmps11
  go_upto_region 1 with (fail)
  generalize (w.alloc (.cells #[.pointer (some ⟨L, 0, none⟩), .pointer (some ⟨R, 0, none⟩)] 48)).alloc (.cells #[.int .i64 1, .bool sec, .string xk, .int .u64 xs, .bool xd, .string xv, .int .i64 nn] 55) = W1 at *
  have HBX : Hid (∀ W : World, (∀ b, w.heap.size ≤ b → b < w.heap.size + 2 → W.heap[b]? = W1.heap[b]?) → W.cell? ⟨w.heap.size, 0, none⟩ = some (.pointer (some ⟨L, 0, none⟩)) ∧ W.cell? ⟨w.heap.size, 1, none⟩ = some (.pointer (some ⟨R, 0, none⟩)) ∧ W.cell? ⟨w.heap.size + 1, 0, none⟩ = some (.int .i64 1) ∧ W.cell? ⟨w.heap.size + 1, 1, none⟩ = some (.bool sec) ∧ W.cell? ⟨w.heap.size + 1, 2, none⟩ = some (.string xk) ∧ W.cell? ⟨w.heap.size + 1, 3, none⟩ = some (.int .u64 xs) ∧ W.cell? ⟨w.heap.size + 1, 4, none⟩ = some (.bool xd) ∧ W.cell? ⟨w.heap.size + 1, 5, none⟩ = some (.string xv) ∧ W.cell? ⟨w.heap.size + 1, 6, none⟩ = some (.int .i64 nn)) := fun W hW => by
    have k1 := (hW _ (by omega) (by omega)).trans g1
    have k2 := (hW _ (by omega) (by omega)).trans g2
    exact ⟨by rw [cell_of_obj k1]; rfl, by rw [cell_of_obj k1]; rfl, by rw [cell_of_obj k2]; rfl, by rw [cell_of_obj k2]; rfl, by rw [cell_of_obj k2]; rfl, by rw [cell_of_obj k2]; rfl, by rw [cell_of_obj k2]; rfl, by rw [cell_of_obj k2]; rfl, by rw [cell_of_obj k2]; rfl⟩
  have HB1 : Hid (Below w.heap.size w W1 ∧ W1.heap.size = w.heap.size + 2) := ⟨hb1, hs1⟩
  have HD1 : Hid (Below w.heap.size w W1.drew) := hb1.drew
  have HTU : Hid (t ≠ u ∧ t + 1 ≠ u) := ⟨htu, htu1⟩
  have HBU : Hid (∀ W, Below W1.heap.size W1 W → ∀ b, w.heap.size ≤ b → b < w.heap.size + 2 → W.heap[b]? = W1.heap[b]?) := fun W hW b h1 h2 => hW.block b (by omega)
  clear hb1 g1 g2 hs1
  obtain ⟨p0, p1, o0, o1, o2, o3, o4, o5, o6⟩ := HBX.out W1 (fun _ _ _ => rfl)
  have HPUT : Hid (Calls Try.prog 21 #[.pointer (some ⟨L, 0, none⟩), .agg #[.string xk, .int .u64 xs, .bool xd, .string xv]] W1.drew fun r w' => ∃ ok, r = .returned (.bool ok) ∧ PutAns t T W1.drew L ds ns (xk, xs, xd, xv) ok w') := put_any t T W1.drew L ds ns (xk, xs, xd, xv) ((HP.out.below HB1.out.1).sl.below (Below.refl _ _).drew) ht (by have := HLN.out.2; omega) (by have := HLN.out.1; omega)
  go_wp2
  go_region_law (first
    | (go_simp; go_at_call 21; go_loud (refine HPUT.out.mono ?_; rintro r w5 ⟨ok, rfl, h5⟩; have HPA : Hid (PutAns t T W1.drew L ds ns (xk, xs, xd, xv) ok w5) := h5; have hbox : ∀ b, w.heap.size ≤ b → b < w.heap.size + 2 → w5.heap[b]? = W1.heap[b]? := (fun b h1 h2 => by obtain ⟨T5, ns5, k1, k2, k3⟩ := h5; exact k2.block b (by have := HB1.out.2; show b < W1.heap.size; omega) (by rw [HTZ.out b h1]; omega)); obtain ⟨pp0, pp1, oo0, oo1, oo2, oo3, oo4, oo5, oo6⟩ := HBX.out w5 hbox; clear h5 hbox))
    | (go_simp; go_at_call 40; go_loud (refine (refPut_any w5 R ds (esN ns) (hsN ns) bs (xk, xs, xd, xv) (put_rl HP.out HD1.out HTU.out.1 HPA.out) (by have := HLN.out.1; rw [esN_len]; omega) HLN.out.2).mono ?_; rintro r w6 ⟨ok2, rfl, h6⟩; obtain ⟨hok, hans⟩ := both_put HP.out HD1.out HTU.out.1 HTU.out.2 HPA.out h6; subst hok; have HANS : Hid (PlayAns t u T w L R ds ns w6) := hans; clear h6 hans)))
  all_goals (
    rename Bool => okk
    cases okk <;> (
      go_wp2
      go_ret
      exact ⟨rfl, HANS.out⟩))
end Sk
end Go.Proofs.Ytfomnkkpiflokaa
