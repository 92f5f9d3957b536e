import Derived.Test.YtjbnnhephagdmaaDoorMl4
import Derived.Test.YtjbnnhephagdmaaDoorMk0
import Derived.Deep.RegionHeld3
namespace Go.Proofs.YtjbnnhephagdmaaDoor
namespace Mnf
open Go.RowKit CMath Byt Cod Crw Irw Laws
set_option linter.unusedVariables false
set_option linter.unusedSimpArgs false
set_option maxRecDepth 20000
def tA : ByteArray := ⟨#[97]⟩
def e0 : Ed := ⟨2, 9, 300, [(0, 4)], [⟨1, 8, 455, 90, 1, tA, tA⟩], []⟩
def r0 : List Nat := [1, 2, 9, 172, 2, 1, 0, 4, 1, 1, 8, 199, 3, 90, 1, 1, 97, 1, 97, 0]
theorem ok0 : okE e0 := by
  have hA : tA.size = 1 := rfl
  refine ⟨⟨by decide, by decide, by decide⟩, fun p hp => ?_, fun p hp => ?_, fun s hs => by simp [e0] at hs, by simp [e0]⟩
  · simp [e0] at hp
    subst hp
    exact ⟨⟨by decide, by decide⟩, by decide⟩
  · simp [e0] at hp
    subst hp
    exact ⟨⟨⟨⟨by decide, by decide⟩, by decide⟩, ⟨by decide, by decide⟩, ⟨by decide, by decide⟩, ⟨by decide, by decide⟩⟩, by rw [hA]; omega, by rw [hA]; omega⟩
theorem n300 : num 300 = [172, 2] := by rw [num, if_neg (by omega), num_small (by omega)]
theorem n455 : num 455 = [199, 3] := by rw [num, if_neg (by omega), num_small (by omega)]
theorem puts0 : puts e0 = [r0] := by
  have hl : lastE e0 = true := rfl
  have hf : firstE e0 = e0 := rfl
  have hs : strB tA = [97] := rfl
  rw [puts_eq, hl, hf]
  have hr : recB true e0 = r0 := by
    unfold recB lstB e0 plB pdB keyB words
    simp only [hs, List.flatMap_cons, List.flatMap_nil, List.length_cons, List.length_nil]
    show 1 :: _ = _
    simp only [n300, n455, show num 2 = [2] from num_small (by omega), show num 9 = [9] from num_small (by omega), show num 1 = [1] from num_small (by omega), show num 0 = [0] from num_small (by omega), show num 4 = [4] from num_small (by omega), show num 8 = [8] from num_small (by omega), show num 90 = [90] from num_small (by omega), show (0 : Int).toNat = 0 from rfl, show (1 : Int).toNat = 1 from rfl, show (455 : Int).toNat = 455 from rfl, show (90 : Int).toNat = 90 from rfl, Nat.zero_add]
    rfl
  rw [hr]
  rfl
theorem gets0 : gets [r0] noE = some [e0] := by
  have h := gets_all [e0] [] (fun e he => by simp at he; subst he; exact ok0)
  simp only [List.flatMap_cons, List.flatMap_nil, List.append_nil, puts0] at h
  rw [h]
  rfl
end Mnf
end Go.Proofs.YtjbnnhephagdmaaDoor
namespace Go.Proofs.YtjbnnhephagdmaaDoor
namespace Mnf
open Go.RowKit CMath Byt Cod Crw Irw Laws
set_option linter.unusedVariables false
set_option linter.unusedSimpArgs false
set_option maxRecDepth 20000
theorem keepS {wq : World} {S : World → Prop} (h : ∀ W, Below wq.heap.size wq W → Below wq.heap.size wq W ∧ S W) {W W' : World} (h1 : Below wq.heap.size wq W ∧ S W) (h2 : Below W.heap.size W W') : Below wq.heap.size wq W' ∧ S W' := h W' (h1.1.trans (h2.mono h1.1.size))
theorem keepA {wq : World} {S : World → Prop} (h : ∀ W, Below wq.heap.size wq W → Below wq.heap.size wq W ∧ S W) {W : World} (h1 : Below wq.heap.size wq W ∧ S W) (o : Obj) : Below wq.heap.size wq (W.alloc o) ∧ S (W.alloc o) := h _ (h1.1.alloc h1.1.size o)
theorem isK_box {α : Type} {K : Knd α} {W : World} {B : Nat} {x : α} (h : Zb W B (K.cs x)) : IsK K W (some ⟨B, 0, none⟩) [x] := by
  intro _
  refine ⟨B, 0, rfl, h.1, fun k y hy j v hv => ?_⟩
  have hk : k = 0 := by
    have := (List.getElem?_eq_some_iff.1 hy).1
    simp at this
    omega
  subst hk
  cases hy
  have e : 0 + 0 * K.size + j = j := by omega
  rw [e]
  exact h.2.1 j v hv
theorem isB_new20 (W : World) (t : TypeId) : IsB (W.alloc (.cells #[.int .u8 1, .int .u8 2, .int .u8 9, .int .u8 172, .int .u8 2, .int .u8 1, .int .u8 0, .int .u8 4, .int .u8 1, .int .u8 1, .int .u8 8, .int .u8 199, .int .u8 3, .int .u8 90, .int .u8 1, .int .u8 1, .int .u8 97, .int .u8 1, .int .u8 97, .int .u8 0] t)) (some ⟨W.heap.size, 0, none⟩) r0 := by
  refine ⟨fun _ => ⟨W.heap.size, 0, rfl, by simp, fun i x hx => ?_⟩, by decide⟩
  rw [World.cell?_alloc_at _ _ _ _ rfl]
  have hi : i < 20 := (List.getElem?_eq_some_iff.1 hx).1
  have e : 0 + i = i := by omega
  rw [e]
  have : ∀ i : Fin 20, ∀ x, r0[i.1]? = some x → (#[Value.int .u8 1, .int .u8 2, .int .u8 9, .int .u8 172, .int .u8 2, .int .u8 1, .int .u8 0, .int .u8 4, .int .u8 1, .int .u8 1, .int .u8 8, .int .u8 199, .int .u8 3, .int .u8 90, .int .u8 1, .int .u8 1, .int .u8 97, .int .u8 1, .int .u8 97, .int .u8 0] : Array Value)[i.1]? = some (Value.int .u8 (x : Int)) := by
    intro ⟨i, hi⟩ x hx
    match i, hi, hx with
    | 0, _, hx => cases hx; rfl
    | 1, _, hx => cases hx; rfl
    | 2, _, hx => cases hx; rfl
    | 3, _, hx => cases hx; rfl
    | 4, _, hx => cases hx; rfl
    | 5, _, hx => cases hx; rfl
    | 6, _, hx => cases hx; rfl
    | 7, _, hx => cases hx; rfl
    | 8, _, hx => cases hx; rfl
    | 9, _, hx => cases hx; rfl
    | 10, _, hx => cases hx; rfl
    | 11, _, hx => cases hx; rfl
    | 12, _, hx => cases hx; rfl
    | 13, _, hx => cases hx; rfl
    | 14, _, hx => cases hx; rfl
    | 15, _, hx => cases hx; rfl
    | 16, _, hx => cases hx; rfl
    | 17, _, hx => cases hx; rfl
    | 18, _, hx => cases hx; rfl
    | 19, _, hx => cases hx; rfl
    | n + 20, hi, _ => omega
  exact this ⟨i, hi⟩ x hx
def W0 (w : World) : World := ((w.alloc (.cells #[.int .i64 0, .int .u64 4] 45)).alloc (.cells #[.int .i64 1, .int .u64 8, .int .i64 455, .int .i64 90, .int .i64 1, .string ⟨#[97]⟩, .string ⟨#[97]⟩] 49)).alloc (.cells #[.int .u64 2, .int .u64 9, .int .u64 300, .slice (some ⟨w.heap.size, 0, none⟩) 1 1, .slice (some ⟨w.heap.size + 1, 0, none⟩) 1 1, .slice none 0 0] 34)
theorem W0_facts (w : World) : Below w.heap.size w (W0 w) ∧ Ls kPl (W0 w) (some ⟨w.heap.size, 0, none⟩, 1, 1) e0.out ∧ Ls kPd (W0 w) (some ⟨w.heap.size + 1, 0, none⟩, 1, 1) e0.inn ∧ Ls kT (W0 w) (none, 0, 0) e0.ptr ∧ Zb (W0 w) (w.heap.size + 1 + 1) [.int .u64 2, .int .u64 9, .int .u64 300, .slice (some ⟨w.heap.size, 0, none⟩) 1 1, .slice (some ⟨w.heap.size + 1, 0, none⟩) 1 1, .slice none 0 0] := by
  obtain ⟨w1, h1⟩ : ∃ W, w.alloc (.cells #[.int .i64 0, .int .u64 4] 45) = W := ⟨_, rfl⟩
  obtain ⟨w2, h2⟩ : ∃ W, w1.alloc (.cells #[.int .i64 1, .int .u64 8, .int .i64 455, .int .i64 90, .int .i64 1, .string ⟨#[97]⟩, .string ⟨#[97]⟩] 49) = W := ⟨_, rfl⟩
  obtain ⟨w3, h3⟩ : ∃ W, w2.alloc (.cells #[.int .u64 2, .int .u64 9, .int .u64 300, .slice (some ⟨w.heap.size, 0, none⟩) 1 1, .slice (some ⟨w.heap.size + 1, 0, none⟩) 1 1, .slice none 0 0] 34) = W := ⟨_, rfl⟩
  have e : W0 w = w3 := by unfold W0; rw [h1, h2, h3]
  have s1 : w1.heap.size = w.heap.size + 1 := by rw [← h1]; simp
  have s2 : w2.heap.size = w.heap.size + 1 + 1 := by rw [← h2]; simp [s1]
  have b1 : Below w.heap.size w w1 := by rw [← h1]; exact (Below.refl _ _).alloc (Nat.le_refl _) _
  have b2 : Below w1.heap.size w1 w2 := by rw [← h2]; exact (Below.refl _ _).alloc (Nat.le_refl _) _
  have b3 : Below w2.heap.size w2 w3 := by rw [← h3]; exact (Below.refl _ _).alloc (Nat.le_refl _) _
  have z1 : Zb w1 w.heap.size (kPl.cs (0, 4)) := by rw [← h1]; exact Zb.new w _ _
  have z2 : Zb w2 (w.heap.size + 1) (kPd.cs ⟨1, 8, 455, 90, 1, tA, tA⟩) := by rw [← h2, ← s1]; exact Zb.new w1 _ _
  have z3 : Zb w3 (w.heap.size + 1 + 1) [.int .u64 2, .int .u64 9, .int .u64 300, .slice (some ⟨w.heap.size, 0, none⟩) 1 1, .slice (some ⟨w.heap.size + 1, 0, none⟩) 1 1, .slice none 0 0] := by rw [← h3, ← s2]; exact Zb.new w2 _ _
  rw [e]
  refine ⟨bl_go (bl_go b1 b2) b3, ⟨isK_box (K := kPl) ((z1.below b2).below b3), rfl, (fun h => by cases h), Nat.le_refl 1, Or.inr ⟨_, _, rfl⟩⟩, ⟨isK_box (K := kPd) (z2.below b3), rfl, (fun h => by cases h), Nat.le_refl 1, Or.inr ⟨_, _, rfl⟩⟩, ⟨IsK.nil _ _, rfl, (fun _ => rfl), Nat.le_refl 0, Or.inl rfl⟩, z3⟩
theorem eds_one {w : World} {s : Sv} {e : Ed} (h : EdsAt w s [e]) : ∃ b off v, s.1 = some ⟨b, off, none⟩ ∧ s.2.1 = 1 ∧ b < w.heap.size ∧ (∀ j u, (kE.cs v)[j]? = some u → w.cell? ⟨b, off + j, none⟩ = some u) ∧ EdAt w v e := by
  obtain ⟨vs, h1, h2, h3, h4, h5, h6⟩ := h
  obtain ⟨v, rfl⟩ : ∃ v, vs = [v] := by
    match vs, h1 with
    | [v], _ => exact ⟨v, rfl⟩
  obtain ⟨b, off, e1, r⟩ := h5 (by simp)
  refine ⟨b, off, v, e1, h2, r.1, fun j u hu => ?_, h6 0 v e rfl rfl⟩
  have := r.2 0 v rfl j u hu
  have e : off + 0 * kE.size + j = off + j := by omega
  rw [e] at this
  exact this
theorem put0 (w W : World) (g2 : Ls kPl W (some ⟨w.heap.size, 0, none⟩, 1, 1) e0.out) (g3 : Ls kPd W (some ⟨w.heap.size + 1, 0, none⟩, 1, 1) e0.inn) (g4 : Ls kT W (none, 0, 0) e0.ptr) :
    Calls Tryd.prog 8 #[.agg #[.int .u64 2, .int .u64 9, .int .u64 300, .slice (some ⟨w.heap.size, 0, none⟩) 1 1, .slice (some ⟨w.heap.size + 1, 0, none⟩) 1 1, .slice none 0 0]] W fun e w' => PtIs (puts e0) W e w' :=
  put_ok e0 (some ⟨w.heap.size, 0, none⟩, 1, 1) (some ⟨w.heap.size + 1, 0, none⟩, 1, 1) (none, 0, 0) W g2 g3 g4 ok0 ⟨show 1 ≤ 9223372036854775807 by omega, show 1 ≤ 9223372036854775807 by omega⟩ (show 1 ≤ 1000000000 by omega) (show 1 ≤ 1000000000 by omega)
theorem same0 {W : World} {H : Nat} {v : Ev} (hv : EdAt W v e0) (g2 : Ls kPl W (some ⟨H, 0, none⟩, 1, 1) e0.out) (g3 : Ls kPd W (some ⟨H + 1, 0, none⟩, 1, 1) e0.inn) (g4 : Ls kT W (none, 0, 0) e0.ptr) :
    Calls Tryd.prog 14 #[.agg #[.int .u64 2, .int .u64 9, .int .u64 300, .slice v.2.2.2.1.1 v.2.2.2.1.2.1 v.2.2.2.1.2.2, .slice v.2.2.2.2.1.1 v.2.2.2.2.1.2.1 v.2.2.2.2.1.2.2, .slice v.2.2.2.2.2.1 v.2.2.2.2.2.2.1 v.2.2.2.2.2.2.2], .agg #[.int .u64 2, .int .u64 9, .int .u64 300, .slice (some ⟨H, 0, none⟩) 1 1, .slice (some ⟨H + 1, 0, none⟩) 1 1, .slice none 0 0]] W fun e w' => e = .returned (.bool true) ∧ Below W.heap.size W w' :=
  sameEdit_true 2 9 300 v.2.2.2.1 v.2.2.2.2.1 v.2.2.2.2.2 (some ⟨H, 0, none⟩, 1, 1) (some ⟨H + 1, 0, none⟩, 1, 1) (none, 0, 0) e0 W hv.2.1 hv.2.2.1 hv.2.2.2.1 g2 g3 g4 (show 1 ≤ 1000000000000 by omega) (show 1 ≤ 1000000000000 by omega) (show 0 ≤ 1000000000000 by omega)
end Mnf
end Go.Proofs.YtjbnnhephagdmaaDoor
