import Derived.Test.YtcioaoanhmpdkaaPm5
import Derived.Test.YtcioaoanhmpdkaaRt6
namespace Go.Proofs.Ytcioaoanhmpdkaa
namespace Mem
open Go.RowKit Laws Irw Erw KMath Skm Byt Sk Grp Crw Chk Mq
set_option linter.unusedVariables false
set_option maxRecDepth 100000
set_option linter.unusedSimpArgs false
set_option maxHeartbeats 1000000 in
theorem mtaken_none (x y z : Nat) (w : World) :
    Calls Try.prog 26 #[.func (.func 73) #[] #[.pointer (some ⟨x, 0, none⟩), .pointer (some ⟨y, 0, none⟩), .pointer (some ⟨z, 0, none⟩)], .int .i64 0] w fun e w' => e = .returned (.tuple #[.slice none 0 0, .bool true]) ∧ Below w.heap.size w w' := by
  have hfn : ∀ (w : World), (binOp .eql 58 (.func (.func 73) #[] #[.pointer (some ⟨x, 0, none⟩), .pointer (some ⟨y, 0, none⟩), .pointer (some ⟨z, 0, none⟩)]) .nilFunc).run Try.prog w = .ok (.bool false) w := fun w => fun_nil _ _ _
  have HB : Hid (Below w.heap.size w ((w.alloc (.cells #[.int .i64 0] 3)).alloc (.cells #[.slice none 0 0] 80))) := ((Below.refl _ _).alloc (Nat.le_refl _) _).alloc (by simp) _
  go_enter Try.func26, Try.ntmps26
  go_wp2
  go_ret2
  exact ⟨rfl, HB.out⟩
def fvM (B : Nat) : Value := .func (.func 73) #[] #[.pointer (some ⟨B, 0, none⟩), .pointer (some ⟨B + 1, 0, none⟩), .pointer (some ⟨B + 2, 0, none⟩)]
def fvS (B : Nat) : Value := .func (.func 88) #[] #[.pointer (some ⟨B, 0, none⟩), .pointer (some ⟨B + 1, 0, none⟩), .pointer (some ⟨B + 2, 0, none⟩)]
/-- what From gives, in every later world -/
theorem gv_from {t : Nat} {T : Nat → Nat} {w : World} {M L : Nat} {ds : List Nat} {ns : List Nd} {fz : Bool} (h : Mt t T w M L ds ns fz) {B : Nat} {k : ByteArray} {s : Int} (hl : ns.length ≤ 1000000000) (hBT : T (B + 2) ≠ t) (k1 : w.cell? ⟨B, 0, none⟩ = some (.pointer (some ⟨M, 0, none⟩))) (k2 : w.cell? ⟨B + 1, 0, none⟩ = some (.string k)) (k3 : w.cell? ⟨B + 2, 0, none⟩ = some (.int .u64 s)) (nn : Int) : Gv w (fvM B) nn (frm k s (ns.map Nd.e)) := fun W hW => by
  unfold fvM
  by_cases h0 : nn = 0
  · subst h0
    refine (mtaken_none B (B + 1) (B + 2) W).mono ?_
    rintro e w' ⟨rfl, hb⟩
    have e0 : tkn 0 (frm k s (ns.map Nd.e)) = [] := by unfold tkn; rw [if_neg (by omega)]; rfl
    rw [e0]
    exact ⟨none, 0, rfl, IsE.nil _ _, hb⟩
  · have hm := h.below hW
    obtain ⟨pre, post, hwk⟩ := Wk.of hm.sl k s
    have := mtaken_some nn h0 B (B + 1) (B + 2) M L k s ns pre post W hwk (Und.cell k1 ⟨W, hW⟩) hm.c0 (Und.cell k2 ⟨W, hW⟩) (Und.cell k3 ⟨W, hW⟩) ⟨fun e => hBT (by rw [e]; exact h.sl.tag), fun nd hnd e => hBT (by rw [← e]; exact h.sl.tags nd hnd)⟩ hl
    have e : (stt s (post.map Nd.e)).2 = frm k s (ns.map Nd.e) := by rw [post_filter hwk]; rfl
    rw [e] at this
    exact this.mono fun e w' ⟨a, c, h1, h2, _, h4⟩ => ⟨a, c, h1, h2, h4⟩
/-- what All gives, in every later world -/
theorem gv_all {t : Nat} {T : Nat → Nat} {w : World} {M L : Nat} {ds : List Nat} {ns : List Nd} {fz : Bool} (h : Mt t T w M L ds ns fz) {B : Nat} (hl : ns.length ≤ 1000000000) (k1 : w.cell? ⟨B, 0, none⟩ = some (.pointer (some ⟨L, 0, none⟩))) (k2 : w.cell? ⟨B + 1, 0, none⟩ = some (.string ⟨#[]⟩)) (k3 : w.cell? ⟨B + 2, 0, none⟩ = some (.int .u64 18446744073709551615)) (nn : Int) : Gv w (fvS B) nn (ns.map Nd.e) := fun W hW => by
  unfold fvS
  have hm := h.below hW
  obtain ⟨pre, post, hwk⟩ := Wk.of hm.sl ⟨#[]⟩ 18446744073709551615
  have hpn : post = ns := post_all hwk fun nd hnd => (h.ok nd hnd).2.2.2.2
  have := taken_any nn B (B + 1) (B + 2) L ⟨#[]⟩ 18446744073709551615 ns pre post W hwk (Und.cell k1 ⟨W, hW⟩) (Und.cell k2 ⟨W, hW⟩) (Und.cell k3 ⟨W, hW⟩) (by omega)
  rw [hpn] at this
  exact this.mono fun e w' ⟨a, c, h1, h2, _, h4⟩ => ⟨a, c, h1, h2, h4⟩
theorem frm_len (k : ByteArray) (s : Int) {es : List En} (h : ∀ e ∈ es, okE e) : (frm k s es).length ≤ es.length := by
  rw [frm_eq h]
  have := fsteps_len (k := k) (s := s) (l := es) (out := [])
  simpa using this
/-- both From's, and what is held against what -/
theorem froms {t u : Nat} {T : Nat → Nat} {w : World} {M L Q R : Nat} {ds : List Nat} {ns : List Nd} {hs : List Int} {bs : List Nat} {fz : Bool} (h : Pm t u T w M L Q R ds ns hs bs fz) (ht : 0 < t) (hn : ns.length ≤ 100000000) {B K : Nat} (hTB : T (B + 2) = 0) {k : ByteArray} {s : Int} (hK : (frm k s (ns.map Nd.e)).length = K) (k1 : w.cell? ⟨B, 0, none⟩ = some (.pointer (some ⟨M, 0, none⟩))) (k2 : w.cell? ⟨B + 1, 0, none⟩ = some (.string k)) (k3 : w.cell? ⟨B + 2, 0, none⟩ = some (.int .u64 s)) (nn : Int) :
    Calls Try.prog 47 #[.pointer (some ⟨Q, 0, none⟩), .string k, .int .u64 s] w fun r w' => ∃ a c, r = .returned (.slice a K c) ∧ Below w.heap.size w w' ∧ ∀ W, Below w'.heap.size w' W → Calls Try.prog 46 #[fvM B, .slice a K c, .int .i64 nn] W fun e w'' => e = .returned (.bool true) ∧ Below W.heap.size W w'' := by
  refine (refFrom6 h.rt (by simp; omega) rfl k s).mono ?_
  rintro r w' ⟨a, c, hr, hi, hc, _, _, hb⟩
  have e := frm_eq (k := k) (s := s) h.rt.ok
  rw [← e] at hr hi hc
  have hKl := frm_len k s h.rt.ok
  rw [hK] at hr hc hKl
  refine ⟨a, c, hr, hb, fun W hW => ?_⟩
  have hg := gv_from (h.mt) (B := B) (k := k) (s := s) (by omega) (by rw [hTB]; omega) k1 k2 k3 nn
  exact walks_any (fvM B) nn (frm k s (ns.map Nd.e)) W a K c ((hg.below hb).below hW) (hi.below hW) hK hc (by simp at hKl; omega)
/-- both All's -/
theorem alls {t u : Nat} {T : Nat → Nat} {w : World} {M L Q R : Nat} {ds : List Nat} {ns : List Nd} {hs : List Int} {bs : List Nat} {fz : Bool} (h : Pm t u T w M L Q R ds ns hs bs fz) (hn : ns.length ≤ 100000000) {B K : Nat} (hK : ns.length = K) (k1 : w.cell? ⟨B, 0, none⟩ = some (.pointer (some ⟨L, 0, none⟩))) (k2 : w.cell? ⟨B + 1, 0, none⟩ = some (.string ⟨#[]⟩)) (k3 : w.cell? ⟨B + 2, 0, none⟩ = some (.int .u64 18446744073709551615)) (nn : Int) :
    Calls Try.prog 48 #[.pointer (some ⟨Q, 0, none⟩)] w fun r w' => ∃ a c, r = .returned (.slice a K c) ∧ Below w.heap.size w w' ∧ ∀ W, Below w'.heap.size w' W → Calls Try.prog 46 #[fvS B, .slice a K c, .int .i64 nn] W fun e w'' => e = .returned (.bool true) ∧ Below W.heap.size W w'' := by
  refine (refAll6 (n := K) h.rt (by simp; omega) (by simp; exact hK)).mono ?_
  rintro r w' ⟨a, c, hr, hi, hc, _, hb⟩
  refine ⟨a, c, hr, hb, fun W hW => ?_⟩
  have hg := gv_all (h.mt) (B := B) (by omega) k1 k2 k3 nn
  exact walks_any (fvS B) nn (ns.map Nd.e) W a K c ((hg.below hb).below hW) (hi.below hW) (by simp; exact hK) hc (by omega)
end Mem
end Go.Proofs.Ytcioaoanhmpdkaa
