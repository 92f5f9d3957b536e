import Derived.Test.YtdflepndhemfgaaGreatDoorSf1
import Derived.Test.YtdflepndhemfgaaGreatDoorSf3
import Derived.Test.YtdflepndhemfgaaGreatDoorJT
import Derived.Deep.DeepCutAuto
import Derived.Laws.EntriesVeiled
namespace Go.Proofs.YtdflepndhemfgaaGreatDoor
namespace Sf
open Go.RowKit Laws Irw Erw KMath Skm Byt Sk
set_option linter.unusedVariables false
set_option maxRecDepth 100000
set_option linter.unusedSimpArgs false
variable {T T' : Nat → Nat} {w w' : World} {L : Nat} {ns pre : List Nd} {B Bf Ba : Nat} {aA : Option Addr} {cA n : Nat}
/-- SkipFresh's walk, as far as it has come -/
structure Fj (T : Nat → Nat) (w : World) (all : List En) (Bw Bn : Nat) (es : List En) (T' : Nat → Nat) (w' : World) : Prop where
  tg : T' = T
  pre : es <+: all
  go : Goes (· = 9000008) T w T w'
  cw : w'.cell? ⟨Bw, 0, none⟩ = some (.bool true)
  cn : w'.cell? ⟨Bn, 0, none⟩ = some (.int .i64 (es.length : Int))
  fw : w'.frozen? ⟨Bw, 0, none⟩ = false
  fn : w'.frozen? ⟨Bn, 0, none⟩ = false
theorem Fj.lasts {T : Nat → Nat} {w : World} {all : List En} {Bw Bn : Nat} (h1 : Bw < w.heap.size) (h2 : Bn < w.heap.size) : Lasts w.heap.size (Fj T w all Bw Bn) := by
  intro es T' A C row h hg hr
  have hk : ∀ b, b < w.heap.size → C.heap[b]? = A.heap[b]? := fun b hb => hg.block b (Nat.lt_of_lt_of_le hb h.go.size) (fun e => by have := (hr b e.symm).1; omega)
  refine ⟨h.tg, h.pre, ⟨hg.os.trans h.go.os, hg.tape.trans h.go.tape, hg.output.trans h.go.output, Nat.le_trans h.go.size hg.size, fun b hb hu => (hk b hb).trans (h.go.block b hb hu), h.go.tag, fun b hb h0 => h.go.high b (Nat.le_trans hg.size hb) h0⟩, (World.cell?_of_block (a := ⟨Bw, 0, none⟩) (hk Bw h1)).trans h.cw, (World.cell?_of_block (a := ⟨Bn, 0, none⟩) (hk Bn h2)).trans h.cn, ?_, ?_⟩
  · have := h.fw
    unfold World.frozen? at this ⊢
    rw [hk Bw h1]; exact this
  · have := h.fn
    unfold World.frozen? at this ⊢
    rw [hk Bn h2]; exact this
def Fn' (all : List En) (es : List En) (_ : Nat → Nat) (_ : World) : Prop := ¬ es <+: all
theorem pre_snoc {all es : List En} {e : En} (h : es <+: all) (hl : es.length < all.length) (he : all.getD es.length ez = e) : es ++ [e] <+: all := by
  obtain ⟨r, rfl⟩ := h
  cases r with
  | nil => simp at hl
  | cons x r =>
    have : x = e := by rw [← he]; simp
    exact ⟨r, by rw [this]; simp⟩
theorem pre_not {all es : List En} {e : En} (hl : es.length < all.length) (he : all.getD es.length ez ≠ e) : ¬ es ++ [e] <+: all := by
  rintro ⟨r, rfl⟩
  exact he (by simp)
/-- the walk through the list, with walks within it -/
theorem fresh_walk (h : Fx T w L ns pre B Bf Ba aA cA n) (Bw Bn : Nat) (hw : w.cell? ⟨Bw, 0, none⟩ = some (.bool true)) (hn : w.cell? ⟨Bn, 0, none⟩ = some (.int .i64 0)) (fw : w.frozen? ⟨Bw, 0, none⟩ = false) (fn : w.frozen? ⟨Bn, 0, none⟩ = false) (tw : T Bw = 9000008) (tn : T Bn = 9000008) (hne : Bw ≠ Bn) :
    Calls Tryz.prog 41 #[.func (.func 12) #[] #[.pointer (some ⟨Bf, 0, none⟩), .pointer (some ⟨Bw, 0, none⟩), .pointer (some ⟨Bn, 0, none⟩), .pointer (some ⟨Ba, 0, none⟩)], .pointer (some ⟨B, 0, none⟩), .pointer (some ⟨B + 1, 0, none⟩), .pointer (some ⟨B + 2, 0, none⟩)] w fun r w' => (∃ v, r = .returned v) ∧ Goes (· = 9000008) T w T w' ∧ w'.cell? ⟨Bw, 0, none⟩ = some (.bool true) ∧ w'.cell? ⟨Bn, 0, none⟩ = some (.int .i64 (n : Int)) := by
  have hlw := World.block_lt_of_cell? w _ hw
  have hln := World.block_lt_of_cell? w _ hn
  refine (callsIn_wide.1 (each_fn (· = 9000008) (by omega) 0 (by omega) T Bf Bw Bn Ba B (B + 1) (B + 2) L ⟨#[]⟩ 18446744073709551615 ns pre ns w h.wk h.tn.1 h.tn.2 h.zero h.k1 h.k2 h.k3 (Fj T w (ns.map Nd.e) Bw Bn) (Fn' (ns.map Nd.e)) (Fj.lasts hlw hln) (fun es T' A C row h _ _ => h) ⟨rfl, List.nil_prefix, Goes.refl _ _ _, hw, hn, fw, fn⟩ ?_)).mono ?_
  · rintro es e T' W1 hj hz hl
    have htg := hj.tg
    subst htg
    have hF := h.goes hj.go (by omega) hz
    have hl2 : es.length < n := by rw [← h.ln]; exact hl
    by_cases he : (ns.map Nd.e).getD es.length ez = e
    · refine (fresh_ok hF Bw Bn es.length hj.cw hj.cn hj.fw hj.fn tw tn hne hl2 e he).mono ?_
      rintro r W2 ⟨rfl, g, k, c1, c2, c3, c4⟩
      refine ⟨true, rfl, T', k.from _, fun _ => ⟨⟨rfl, pre_snoc hj.pre (by rw [List.length_map]; exact hl) he, hj.go.trans g, c1, ?_, c3, c4⟩, g, fun x hx => hz x (Nat.le_trans g.size hx)⟩, fun e => by cases e⟩
      rw [c2, List.length_append]; rfl
    · refine (fresh_no hF Bw Bn es.length hj.cw hj.cn hj.fw hj.fn tw tn hne hl2 e he).mono ?_
      rintro r W2 ⟨rfl, k⟩
      exact ⟨false, rfl, T', k.from _, (fun e => by cases e), fun _ => pre_not (by rw [List.length_map]; exact hl) he⟩
  · rintro r W' ⟨hv, ⟨T', hj⟩ | ⟨es, T', hp, hx⟩⟩
    · refine ⟨hv, hj.go, hj.cw, ?_⟩
      have := hj.cn
      rw [List.length_map, h.ln] at this
      exact this
    · exact absurd hp hx
/-- What SkipFresh holds: the book, the list 'want' (aw); all else lies below w2. -/
structure SS (w2 : World) (K N : Nat) (aw : Option Addr) (hs : List Int) (T : Nat → Nat) (W : World) : Prop where
  kept : BookI.Kept T W K N
  bl : Below w2.heap.size w2 W
  fr : ∀ b, b < w2.heap.size → T b = 0
  row : BookI.Row T W aw hs
section
variable {w2 : World} {K N : Nat} {aw : Option Addr} {hs : List Int} {T T' : Nat → Nat} {W W' : World}
theorem row_goes {u : Nat → Prop} (h : BookI.Row T W aw hs) (hg : Goes u T W T' W') (h0 : ¬ u 0) : BookI.Row T' W' aw hs := by
  refine ⟨fun hne => ?_, fun ad e => ?_⟩
  · obtain ⟨b, off, rfl, hr⟩ := h.1 hne
    obtain ⟨_, t⟩ := h.2 _ rfl
    exact ⟨b, off, rfl, hr.keep (hg.block b hr.1 (by simp only at t; rw [t]; exact h0)) hg.size⟩
  · obtain ⟨z, t⟩ := h.2 ad e
    exact ⟨Nat.lt_of_lt_of_le z hg.size, (hg.tag _ z (by rw [t]; exact h0)).trans t⟩
theorem SS.below (h : SS w2 K N aw hs T W) (hb : Below W.heap.size W W') : SS w2 K N aw hs T W' := ⟨h.kept.below hb, h.bl.trans (hb.mono h.bl.size), h.fr, h.row.below hb⟩
theorem SS.goes {u : Nat → Prop} (h : SS w2 K N aw hs T W) (hg : Goes u T W T' W') (hu : ∀ x, u x → 9000000 ≤ x) : SS w2 K N aw hs T' W' :=
  have h0 : ¬ u 0 := fun z => by have := hu 0 z; omega
  ⟨h.kept.goes hg hu, h.bl.trans ⟨hg.os, hg.tape, hg.output, hg.size, fun b hl => hg.block b (Nat.lt_of_lt_of_le hl h.bl.size) (by rw [h.fr b hl]; exact h0)⟩, fun b hl => (hg.tag b (Nat.lt_of_lt_of_le hl h.bl.size) (by rw [h.fr b hl]; exact h0)).trans (h.fr b hl), row_goes h.row hg h0⟩
theorem SS.ints (h : SS w2 K N aw hs T W) (hN : N + 1 ≤ 2000) {k c n : Nat} {a : Option Addr} {l : List Int} (mark : Int) (ha : BookI.Live k T W a c l) (hl : l.length ≤ 1000000000000) (hn : n = l.length) :
    Calls Tryz.prog 7 #[.pointer (some ⟨K, 0, none⟩), .slice a n c, .int .i64 mark] W fun e w' => e = .returned (.tuple #[]) ∧ ∃ T', SS w2 K (N + 1) aw hs T' w' ∧ BookI.Go_ k T W T' w' := by
  refine (h.kept.bytes hN mark ha hl hn).mono ?_
  rintro e w' ⟨rfl, T', h1, h2⟩
  refine ⟨rfl, T', ⟨h1, h.bl.trans ⟨h2.os, h2.tape, h2.output, h2.size, fun b hl => (h2.block b (Nat.lt_of_lt_of_le hl h.bl.size) (.inl (h.fr b hl)) (by rw [h.fr b hl]; omega)).1⟩, fun b hl => (h2.block b (Nat.lt_of_lt_of_le hl h.bl.size) (.inl (h.fr b hl)) (by rw [h.fr b hl]; omega)).2.trans (h.fr b hl), h.row.go h2⟩, h2⟩
end
/-- The copy of a list of ints is new memory. -/
theorem copy_i {w w9 : World} {T9 : Nat → Nat} {a : Option Addr} {n c : Nat} {l : List Int} (ho : OwnL 1 T9 w9 (.slice a n c) l) (hg : Goes (· = 1) (fun _ => 0) w T9 w9) : IsI w9 a l ∧ n = l.length ∧ (∀ ad, a = some ad → w.heap.size ≤ ad.block ∧ ad.block < w9.heap.size) ∧ Below w.heap.size w w9 := by
  refine ⟨ho.isI.1, ho.isI.2.1, fun ad e => ?_, ⟨hg.os, hg.tape, hg.output, hg.size, fun b hb => hg.block b hb (by simp)⟩⟩
  subst e
  have h1 := ho.2 ad.block rfl
  have h2 : ad.block < w9.heap.size := (ho.1.lt ad.block rfl).2
  refine ⟨?_, h2⟩
  by_cases hb : w.heap.size ≤ ad.block
  · exact hb
  · have h3 := hg.tag ad.block (by omega) (by simp)
    rw [h3] at h1
    simp at h1
end Sf
end Go.Proofs.YtdflepndhemfgaaGreatDoor
