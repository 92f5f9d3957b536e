import Derived.Test.YtkebbmdghnplmaaDoorQd2
import Derived.Test.YtkebbmdghnplmaaDoorQdM
namespace Go.Proofs.YtkebbmdghnplmaaDoor
namespace Qb
open Go.RowKit Go.Shelf CMath Byt Laws Irw Crw Cod Qe
set_option linter.unusedVariables false
set_option linter.unusedSimpArgs false
set_option maxRecDepth 100000

/-- A restart point's place, and the key there. -/
theorem at_restart {r : Nat} {l : List En} (hr : 1 ≤ r) (hok : ∀ e ∈ l, Ok e ∧ 0 ≤ e.2.1) (hb : (pushes r st0 l).b.length < 4294967296) {i : Nat} (hi : r * i < l.length) :
    4 * i + 4 ≤ (pushes r st0 l).p.length ∧ val (((pushes r st0 l).p.drop (4 * i)).take 4) = (pushes r st0 (l.take (r * i))).b.length ∧ (pushes r st0 (l.take (r * i))).b.length ≤ (pushes r st0 l).b.length ∧ ∃ x, l[r * i]? = some x ∧ keyOf (pushes r st0 l).b (pushes r st0 (l.take (r * i))).b.length = x.1 := by
  have hp := places hr l
  have hm := (mres_lt hr l.length i).1 hi
  have hw := wk_from hok (Nat.le_of_lt hi) (mul_mod0 r i)
  refine ⟨by rw [hp.1]; omega, ?_, hw.1, ?_⟩
  · rw [hp.2 i hi]
    exact four_val (Nat.lt_of_le_of_lt hw.1 hb)
  · have hx : l[r * i]? = some (l[r * i]'hi) := List.getElem?_eq_getElem hi
    refine ⟨_, hx, ?_⟩
    have h2 := hw.2
    rw [List.drop_eq_getElem_cons hi] at h2
    unfold keyOf
    cases hwk : wk ((pushes r st0 l).b.drop (pushes r st0 (l.take (r * i))).b.length) [] with
    | nil => rw [hwk] at h2; cases h2
    | cons y t =>
      rw [hwk] at h2
      simp only [List.map_cons, List.cons.injEq] at h2
      show y.1.1 = _
      rw [h2.1]
theorem gtK_lt {x y : ByteArray} (h : Op.bytesLess y.toList x.toList = true) : gtK x y = true := by
  unfold gtK
  rw [KMath.bl_asymm _ _ h]
  have : (x.toList == y.toList) = false := by
    rw [beq_eq_false_iff_ne]; intro e; rw [e, KMath.bl_irrefl] at h; cases h
  rw [this]; rfl
theorem gtK_is {x y : ByteArray} (h : gtK x y = true) : Op.bytesLess y.toList x.toList = true := by
  unfold gtK at h
  simp only [Bool.not_eq_true', Bool.or_eq_false_iff] at h
  cases hb : Op.bytesLess y.toList x.toList with
  | true => rfl
  | false =>
    have := KMath.bl_tri _ _ h.1 hb
    rw [this] at h
    simp at h
theorem gtK_no {x y : ByteArray} (h : gtK x y = false) {z : ByteArray} (hz : Op.bytesLess z.toList x.toList = true) : Op.bytesLess z.toList y.toList = true := by
  cases hb : Op.bytesLess x.toList y.toList with
  | true => exact KMath.bl_trans _ _ _ hz hb
  | false =>
    cases hb2 : Op.bytesLess y.toList x.toList with
    | true => rw [gtK_lt hb2] at h; cases h
    | false => rw [← KMath.bl_tri _ _ hb hb2]; exact hz
def RfIs (w : World) (r : Nat) (l : List En) (key : ByteArray) (e : Ending) (w' : World) : Prop := ∃ k pl, e = .returned (.int .i64 ((pl : Nat) : Int)) ∧ pl = (pushes r st0 (l.take k)).b.length ∧ k ≤ l.length ∧ k % r = 0 ∧ (∀ i x, i < k → l[i]? = some x → Op.bytesLess x.1.toList key.toList = true) ∧ Below w.heap.size w w'
set_option maxHeartbeats 1000000 in
theorem restartFor_any (w : World) (K o r : Nat) (l : List En) (key : ByteArray) (hr : 1 ≤ r) (hk : BlkZ w K o (pushes r st0 l).b (pushes r st0 l).p) (hc : chain ⟨#[]⟩ l) (h0 : ∀ e ∈ l, 0 ≤ e.2.1) (hb : (pushes r st0 l).b.length < 4294967296) (hp : (pushes r st0 l).p.length ≤ 1000000000000) :
    Calls Tryd.prog 44 #[.pointer (some ⟨K, o, none⟩), .string key] w fun e w' => RfIs w r l key e w' := by
  have hok : ∀ e ∈ l, Ok e ∧ 0 ≤ e.2.1 := fun e he => ⟨chain_ok hc e he, h0 e he⟩
  have hpl := places hr l
  have hn : (pushes r st0 l).p.length / 4 = mres r l.length := by rw [hpl.1]; omega
  have hmf : ∀ (fn : Fn) (first cap : Array Value) (w : World), (Instr.makeFunc fn first cap).run Tryd.prog w = .ok (.func fn first cap) w := fun _ _ _ _ => rfl
  obtain ⟨W1, hW1⟩ : ∃ W1, W1 = (w.alloc (.cells #[.pointer (some ⟨K, o, none⟩)] 39)).alloc (.cells #[.string key] 9) := ⟨_, rfl⟩
  have hb1 : Below w.heap.size w W1 := by rw [hW1]; exact ((Below.refl _ _).alloc (Nat.le_refl _) _).alloc (by simp) _
  have c1 : W1.cell? ⟨w.heap.size, 0, none⟩ = some (.pointer (some ⟨K, o, none⟩)) := by rw [hW1]; simp
  have c2 : W1.cell? ⟨w.heap.size + 1, 0, none⟩ = some (.string key) := by rw [hW1]; simp
  have HK1 : Hid (BlkZ W1 K o (pushes r st0 l).b (pushes r st0 l).p) := hk.below hb1
  obtain ⟨a', c', ce', hie', hec', hc', _⟩ := HK1.out.pla
  have HR : Hid (Calls Tryd.prog 67 #[.pointer (some ⟨K, o, none⟩)] W1 fun e w' => e = .returned (.int .i64 ((mres r l.length : Nat) : Int)) ∧ w' = W1) := by
    have := restarts_any W1 K o a' _ c' ce' hp
    rw [hn] at this
    exact this
  have HF : Hid (∀ (W : World) (i : Nat), Below W1.heap.size W1 W → i < mres r l.length → Calls Tryd.prog 81 (#[.int .i64 (i : Int)] ++ #[.pointer (some ⟨w.heap.size, 0, none⟩), .pointer (some ⟨w.heap.size + 1, 0, none⟩)]) W fun e w' => e = .returned (.bool (gtK (keyOf (pushes r st0 l).b (val (((pushes r st0 l).p.drop (4 * i)).take 4))) key)) ∧ Below W.heap.size W w') := fun W i hbW hi => by
    have hi' := (mres_lt hr l.length i).2 hi
    obtain ⟨q1, q2, q3, _⟩ := at_restart hr hok hb hi'
    exact restartForC_any W _ _ K o i key _ _ (HK1.out.below hbW) ((hbW.cell (p := ⟨w.heap.size, 0, none⟩) (World.block_lt_of_cell? W1 _ c1)).trans c1) ((hbW.cell (p := ⟨w.heap.size + 1, 0, none⟩) (World.block_lt_of_cell? W1 _ c2)).trans c2) q1 (by rw [q2]; exact q3)
  have key_at : ∀ i, i < mres r l.length → ∃ x, l[r * i]? = some x ∧ keyOf (pushes r st0 l).b (val (((pushes r st0 l).p.drop (4 * i)).take 4)) = x.1 := fun i hi => by
    obtain ⟨_, q2, _, x, q3, q4⟩ := at_restart hr hok hb ((mres_lt hr l.length i).2 hi)
    exact ⟨x, q3, by rw [q2]; exact q4⟩
  have hml : mres r l.length < 4611686018427387904 := by omega
  have HS : Hid (Calls Tryd.prog 80 #[.int .i64 (mres r l.length : Nat), .func (.func 81) #[] #[.pointer (some ⟨w.heap.size, 0, none⟩), .pointer (some ⟨w.heap.size + 1, 0, none⟩)]] W1 fun e w' => ∃ m : Nat, e = .returned (.int .i64 (m : Int)) ∧ m ≤ mres r l.length ∧ (∀ t, t < m → gtK (keyOf (pushes r st0 l).b (val (((pushes r st0 l).p.drop (4 * t)).take 4))) key = false) ∧ (∀ t, m ≤ t → t < mres r l.length → gtK (keyOf (pushes r st0 l).b (val (((pushes r st0 l).p.drop (4 * t)).take 4))) key = true) ∧ Below W1.heap.size W1 w') := by
    refine search_any 81 _ _ (fun i => gtK (keyOf (pushes r st0 l).b (val (((pushes r st0 l).p.drop (4 * i)).take 4))) key) W1 (enters_of Tryd.func81 (by kernel_rfl) rfl) hml HF.out (fun a b hab hbn hpa => ?_)
    obtain ⟨x, hx, ex⟩ := key_at a (by omega)
    obtain ⟨y, hy, ey⟩ := key_at b hbn
    rw [ex] at hpa
    rw [ey]
    have h1 := gtK_is hpa
    rcases Nat.lt_or_ge a b with hlt | hge
    · exact gtK_lt (KMath.bl_trans _ _ _ h1 (chain_lt hc (r * a) (r * b) x y hx hy (Nat.mul_lt_mul_of_pos_left hlt (by omega))))
    · have : a = b := by omega
      subst this
      rw [hx] at hy; cases hy
      exact gtK_lt h1
  have HPL : Hid (∀ (m : Nat) (W : World), m < mres r l.length → Below W1.heap.size W1 W → Calls Tryd.prog 68 #[.pointer (some ⟨K, o, none⟩), .int .i64 (m : Int)] W fun e w' => e = .returned (.int .i64 (((pushes r st0 (l.take (r * m))).b.length : Nat) : Int)) ∧ w' = W) := fun m W hm hbW => by
    obtain ⟨q1, q2, q3, _⟩ := at_restart hr hok hb ((mres_lt hr l.length m).2 hm)
    obtain ⟨a2, c2', ce2, hie2, hec2, hc2, _⟩ := (HK1.out.below hbW).pla
    have := place_any W K o a2 _ _ c2' m ce2 hie2 rfl hec2 hc2.1 q1 hp
    rw [q2] at this
    exact this
  have HKA : Hid (∀ i, i < mres r l.length → ∃ x, l[r * i]? = some x ∧ keyOf (pushes r st0 l).b (val (((pushes r st0 l).p.drop (4 * i)).take 4)) = x.1) := key_at
  have HCH : Hid (chain ⟨#[]⟩ l ∧ 1 ≤ r) := ⟨hc, hr⟩
  have HB1 : Hid (Below w.heap.size w W1) := hb1
  have HPM : Hid (mres r l.length ≤ 1000000000000 ∧ ∀ i, i < mres r l.length → r * i ≤ l.length) := ⟨by show _ ≤ _; omega, fun i hi => Nat.le_of_lt ((mres_lt hr l.length i).2 hi)⟩
  clear hk hc h0 hb hp hok hpl hn ce' hie' hec' hc' HF key_at hr hb1 HK1
  generalize hNN : mres r l.length = NN at *
  clear hNN
  subst hW1
  have HC1 : Hid (((w.alloc (.cells #[.pointer (some ⟨K, o, none⟩)] 39)).alloc (.cells #[.string key] 9)).cell? ⟨w.heap.size, 0, none⟩ = some (.pointer (some ⟨K, o, none⟩))) := c1
  clear c1 c2
  have hnn : NN ≤ 1000000000000 := HPM.out.1
  clear hml
  go_enter Tryd.func44, Tryd.ntmps44
  go_wp2_with (go_at_call 67; go_loud (refine HR.out.mono ?_; rintro e w1 ⟨rfl, hw⟩; have hw2 := hw.symm; clear hw; subst hw2))
  refine HS.out.mono ?_
  rintro e w2 ⟨m, rfl, hm, hlo, hhi, hb2⟩
  have HLO : Hid (∀ t, t < m → gtK (keyOf (pushes r st0 l).b (val (((pushes r st0 l).p.drop (4 * t)).take 4))) key = false) := hlo
  have HB2 : Hid (Below ((w.alloc (.cells #[.pointer (some ⟨K, o, none⟩)] 39)).alloc (.cells #[.string key] 9)).heap.size ((w.alloc (.cells #[.pointer (some ⟨K, o, none⟩)] 39)).alloc (.cells #[.string key] 9)) w2) := hb2
  have c2 := (hb2.cell (p := ⟨w.heap.size, 0, none⟩) (World.block_lt_of_cell? _ _ HC1.out)).trans HC1.out
  clear hlo hhi hb2
  dsimp only
  rcases m with _ | q
  · go_wp2
    go_ret
    exact ⟨0, 0, rfl, rfl, Nat.zero_le _, Nat.zero_mod _, fun i x hi => by omega, HB1.out.trans (HB2.out.mono HB1.out.size)⟩
  · have HQ := HPL.out q w2 (by omega) HB2.out
    have HQH : Hid (Calls Tryd.prog 68 #[.pointer (some ⟨K, o, none⟩), .int .i64 (q : Int)] w2 fun e w' => e = .returned (.int .i64 (((pushes r st0 (l.take (r * q))).b.length : Nat) : Int)) ∧ w' = w2) := HQ
    clear HQ
    have HQN : Hid (q < NN) := by show _ < _; omega
    have hq1 : ¬ (((q + 1 : Nat) : Int) = 0) := by omega
    have hq2 : (((q + 1 : Nat) : Int) == 0) = false := by simpa using hq1
    have hq3 : (((q + 1 : Nat) : Int)) = (q : Int) + 1 := by omega
    rw [hq3] at hq2 hq1 ⊢
    have hq4 : (q : Int) ≤ 1000000000000 := by omega
    clear hq3 hm
    go_wp2_with (go_at_call 68; go_loud (refine HQH.out.mono ?_; rintro e w1 ⟨rfl, hw⟩; have hw2 := hw.symm; clear hw; subst hw2))
    go_ret
    refine ⟨r * q, _, rfl, rfl, HPM.out.2 q HQN.out, mul_mod0 r q, fun i x hi hx => ?_, HB1.out.trans (HB2.out.mono HB1.out.size)⟩
    obtain ⟨y, hy, ey⟩ := HKA.out q HQN.out
    have h1 := HLO.out q (by omega)
    rw [ey] at h1
    exact gtK_no h1 (chain_lt HCH.out.1 i (r * q) x y hx hy hi)
end Qb
end Go.Proofs.YtkebbmdghnplmaaDoor
