import Derived.Test.YtdflepndhemfgaaGreatDoorKn6
import Derived.Test.YtdflepndhemfgaaGreatDoorSkU
import Derived.Test.YtdflepndhemfgaaGreatDoorEa2
namespace Go.Proofs.YtdflepndhemfgaaGreatDoor
namespace Sk
open Go.RowKit Go.Shelf Laws Irw Erw KMath Skm Byt
set_option linter.unusedVariables false
set_option maxRecDepth 100000
theorem rdE {w : World} {a : Option Addr} {l : List En} {i : Nat} (h : IsE w a l) (hi : i < l.length) : ∃ b off, a = some ⟨b, off, none⟩ ∧ b < w.heap.size ∧ w.cell? ⟨b, off + i * 4, none⟩ = some (.string (l.getD i ez).1) ∧ w.cell? ⟨b, off + i * 4 + 1, none⟩ = some (.int .u64 (l.getD i ez).2.1) ∧ w.cell? ⟨b, off + i * 4 + 2, none⟩ = some (.bool (l.getD i ez).2.2.1) ∧ w.cell? ⟨b, off + i * 4 + 3, none⟩ = some (.string (l.getD i ez).2.2.2) := by
  obtain ⟨b, off, e, hr⟩ := h.at_ (by omega)
  have hv : l[i]? = some (l.getD i ez) := by simp [hi]
  exact ⟨b, off, e, hr.1, hr.2 i _ hv⟩
set_option linter.unusedSimpArgs false
theorem sameEntries_true (a b : Option Addr) (ca cb n : Nat) (l : List En) (w : World) (ha : IsE w a l) (hb : IsE w b l) (hn : l.length = n) (hl : n ≤ 2932031007402) :
    Calls Tryz.prog 13 #[.slice a n ca, .slice b n cb] w fun e w' => e = .returned (.bool true) ∧ ∃ n, w' = w.drewN n := by
  have HA : Hid (IsE w a l) := ha
  have HB : Hid (IsE w b l) := hb
  have HNN : Hid (l.length = n) := hn
  clear ha hb hn
  go_enter Tryz.func13, Tryz.ntmps13
  go_wp2
  go_loopw [5] (fun i wr => ∃ k m : Nat, k ≤ n ∧ i = .int .i64 k ∧ wr = w.drewN m) (fun i _ => n - (intOf i).toNat)
  case atStart => exact ⟨0, 0, Nat.zero_le _, rfl, rfl⟩
  case round =>
    obtain ⟨k, m, hk, rfl, rfl⟩ := hrel
    by_cases hlt : k < n
    · have hlt' : k < l.length := by rw [HNN.out]; exact hlt
      obtain ⟨b1, o1, rfl, _, x0, x1, x2, x3⟩ := rdE HA.out hlt'
      obtain ⟨b2, o2, rfl, _, y0, y1, y2, y3⟩ := rdE HB.out hlt'
      have q1 : (k : Int) < (n : Int) := by omega
      generalize l.getD k ez = y at *
      obtain ⟨yk, ys, yd, yv⟩ := y
      dsimp only at x0 x1 x2 x3 y0 y1 y2 y3
      clear hlt'
      go_wp2
      go_quiet (fail)
      go_wp2
      go_roundw
      case rel => exact ⟨k + 1, _, by omega, by go_num, rfl⟩
      case measure => simp [intOf]; omega
    · go_wp2
      go_ret
      exact ⟨rfl, _, rfl⟩
theorem cmpE_lt_iff (a b : ByteArray) (m n : Int) : cmpE a b m n < 0 ↔ Op.bytesLess a.toList b.toList = true ∨ (a.toList = b.toList ∧ n < m) := by
  rcases cmpS_cases a b with ⟨h1, e1⟩ | ⟨h1, e1⟩ | ⟨h1, e1⟩
  · rw [cmpE_ne (by omega), e1]; simp [h1]
  · rw [cmpE_eq e1]
    have hb : Op.bytesLess a.toList b.toList = false := by rw [h1]; exact bl_irrefl _
    unfold cmpN
    by_cases h2 : n < m
    · simp [h2, h1]
    · by_cases h3 : m < n
      · simp [h2, h3, h1, bl_irrefl]
      · simp [h2, h3, h1, bl_irrefl]
  · rw [cmpE_ne (by omega), e1]
    have hb := bl_asymm _ _ h1
    have hne : a.toList ≠ b.toList := by intro e; rw [e, bl_irrefl] at h1; cases h1
    simp [hb, hne]
theorem post_all {W : World} {L : Nat} {ns pre post : List Nd} (h : Wk W L ⟨#[]⟩ 18446744073709551615 ns pre post) (hm : ∀ n ∈ ns, n.e.2.1 ≤ 18446744073709551615) : post = ns := by
  have hp : pre = [] := by
    cases hp : pre with
    | nil => rfl
    | cons n r =>
      have h1 := h.hpre n (by rw [hp]; simp)
      have h2 : cmpE n.e.1 ⟨#[]⟩ n.e.2.1 18446744073709551615 < 0 := by simpa [aheadB] using h1
      rw [cmpE_lt_iff] at h2
      have h3 := hm n (by rw [h.cut, hp]; simp)
      rcases h2 with h2 | h2
      · have : (⟨#[]⟩ : ByteArray).toList = [] := by rw [ByteArray.toList_eq]
        rw [this] at h2
        cases hl : n.e.1.toList <;> rw [hl] at h2 <;> simp [Op.bytesLess] at h2
      · omega
  rw [h.cut, hp]; rfl
theorem towersO {t : Nat} {T : Nat → Nat} {w : World} {L : Nat} {ds : List Nat} {ns : List Nd} (h : Sl t T w L ds ns) {n : Nat} (hn : ns.length = n) (hl : n ≤ 3000000000000) :
    Calls Tryz.prog 6 #[.pointer (some ⟨L, 0, none⟩)] w fun e w' => ∃ g, e = .returned (.slice (some ⟨g, 0, none⟩) n n) ∧ w.heap.size ≤ g ∧ Below w.heap.size w w' ∧ w'.ownsRow w.heap.size 3 1 (.slice (some ⟨g, 0, none⟩) n n) n (cellsI (ns.map fun n => (n.h : Int))) := by
  have h1 := callsIn_wide.1 (towers_own L ns w h.lt h.tow h.chain h.cnt h.hts (by omega))
  rw [hn] at h1
  exact h1
set_option maxHeartbeats 1000000 in
theorem taken_fr (Bl Bk Bs L : Nat) (k : ByteArray) (s : Int) (ns pre post : List Nd) (w : World) (hw : Wk w L k s ns pre post)
    (hBl : w.cell? ⟨Bl, 0, none⟩ = some (.pointer (some ⟨L, 0, none⟩))) (hBk : w.cell? ⟨Bk, 0, none⟩ = some (.string k)) (hBs : w.cell? ⟨Bs, 0, none⟩ = some (.int .u64 s)) (hlen : ns.length ≤ 2932031007402) :
    Calls Tryz.prog 11 #[.func (.func 41) #[] #[.pointer (some ⟨Bl, 0, none⟩), .pointer (some ⟨Bk, 0, none⟩), .pointer (some ⟨Bs, 0, none⟩)], .int .i64 (-1)] w fun e w' => ∃ a c, e = .returned (.tuple #[.slice a post.length c, .bool true]) ∧ IsE w' a (post.map Nd.e) ∧ (∀ b off, a = some ⟨b, off, none⟩ → w.heap.size ≤ b) ∧ Below w.heap.size w w' := by
  have HW : Hid (Wk w L k s ns pre post) := hw
  have hmf : ∀ (fn : Fn) (first cap : Array Value) (w : World), (Instr.makeFunc fn first cap).run Tryz.prog w = .ok (.func fn first cap) w := fun _ _ _ _ => rfl
  have hfn : ∀ (x y z : Nat) (w : World), (binOp .eql 55 (.func (.func 41) #[] #[.pointer (some ⟨x, 0, none⟩), .pointer (some ⟨y, 0, none⟩), .pointer (some ⟨z, 0, none⟩)]) .nilFunc).run Tryz.prog w = .ok (.bool false) w := fun x y z w => fun_nil _ _ _
  clear hw
  go_enter Tryz.func11, Tryz.ntmps11
  go_wp2_with fail
  generalize ho1 : (Obj.cells #[.int .i64 (-1)] 3) = o1
  generalize ho2 : (Obj.cells #[.slice none 0 0] 23) = o2
  generalize ho3 : (Obj.cells #[.bool true] 4) = o3
  generalize ho4 : (Obj.cells #[.bool false] 4) = o4
  have g1 : ((((w.alloc o1).alloc o2).alloc o3).alloc o4).heap[w.heap.size]? = some o1 := by
    rw [Below.heap_alloc _ _ _ (by simp <;> omega), Below.heap_alloc _ _ _ (by simp <;> omega), Below.heap_alloc _ _ _ (by simp <;> omega)]
    exact World.alloc_heap_new w o1
  have g2 : ((((w.alloc o1).alloc o2).alloc o3).alloc o4).heap[w.heap.size + 1]? = some o2 := by
    rw [Below.heap_alloc _ _ _ (by simp <;> omega), Below.heap_alloc _ _ _ (by simp <;> omega)]
    have := World.alloc_heap_new (w.alloc o1) o2
    rwa [World.size_alloc] at this
  have g3 : ((((w.alloc o1).alloc o2).alloc o3).alloc o4).heap[w.heap.size + 2]? = some o3 := by
    rw [Below.heap_alloc _ _ _ (by simp <;> omega)]
    have := World.alloc_heap_new ((w.alloc o1).alloc o2) o3
    rwa [World.size_alloc, World.size_alloc] at this
  have g4 : ((((w.alloc o1).alloc o2).alloc o3).alloc o4).heap[w.heap.size + 3]? = some o4 := by
    have := World.alloc_heap_new (((w.alloc o1).alloc o2).alloc o3) o4
    rwa [World.size_alloc, World.size_alloc, World.size_alloc] at this
  have hb4 : Below w.heap.size w ((((w.alloc o1).alloc o2).alloc o3).alloc o4) := ((((Below.refl _ _).alloc (Nat.le_refl _) _).alloc (by simp) _).alloc (by simp; omega) _).alloc (by simp; omega) _
  have hs4 : ((((w.alloc o1).alloc o2).alloc o3).alloc o4).heap.size = w.heap.size + 4 := by simp
  generalize (((w.alloc o1).alloc o2).alloc o3).alloc o4 = W4 at *
  subst ho1 ho2 ho3 ho4
  have hnl : ∀ nd ∈ ns, nd.b < w.heap.size := fun nd hnd => HW.out.chain.lt hnd
  have hTk : Tk (tkT L ns w.heap.size) W4 w.heap.size (-1) false [] := by
    refine ⟨fun b h1 h2 => ⟨tkT_box h1 h2, by omega⟩, by rw [cell_of_obj g1]; rfl, ⟨.slice none 0 0, by rw [cell_of_obj g2]; rfl, OwnE.empty _ _ _⟩, by rw [cell_of_obj g3]; rfl, by rw [cell_of_obj g4]; rfl, fun b h1 h2 => ?_⟩
    rcases (show b = w.heap.size ∨ b = w.heap.size + 1 ∨ b = w.heap.size + 2 ∨ b = w.heap.size + 3 by omega) with rfl | rfl | rfl | rfl
    · exact froz_of_obj g1
    · exact froz_of_obj g2
    · exact froz_of_obj g3
    · exact froz_of_obj g4
  refine (callsIn_wide.1 (all_in 1 (by unfold uT; omega) (tkT L ns w.heap.size) Bl Bk Bs L w.heap.size k s ns pre post W4 (HW.out.under hb4) (fun nd hnd => tkT_node (hnl nd hnd) (.inr ⟨nd, hnd, rfl⟩)) (tkT_node HW.out.lt (.inl rfl)) (fun b hb => tkT_hi (by omega) HW.out.lt hnl) (by omega) ((hb4.cell (p := ⟨Bl, 0, none⟩) (World.block_lt_of_cell? w _ hBl)).trans hBl) ((hb4.cell (p := ⟨Bk, 0, none⟩) (World.block_lt_of_cell? w _ hBk)).trans hBk) ((hb4.cell (p := ⟨Bs, 0, none⟩) (World.block_lt_of_cell? w _ hBs)).trans hBs) hTk hlen)).mono ?_
  rintro e w5 ⟨⟨v, rfl⟩, T5, h5, hg5, hz5⟩
  have hbl : Below w.heap.size w w5 := hb4.trans ⟨hg5.os, hg5.tape, hg5.output, hg5.size, fun b hb => hg5.block b (by omega) (tkT_lo hb)⟩
  obtain ⟨v5, k1, ho5⟩ := h5.out
  obtain ⟨a5, c5, rfl, hi5, _, hn5⟩ := ho5.form
  rw [List.length_map] at k1
  have k2 := h5.well
  have hfr5 : ∀ b off, a5 = some ⟨b, off, none⟩ → w.heap.size ≤ b := fun b off e => by
    rcases Nat.lt_or_ge b w.heap.size with hb | hb
    · exfalso
      have q1 : T5 b = 7 := by
        subst e
        rcases ho5.1.2 with ⟨q, _⟩ | ⟨g', cap', cur', q, _⟩
        · cases q
        · simp only [Value.slice.injEq, Option.some.injEq, Addr.mk.injEq] at q
          obtain ⟨⟨rfl, rfl, _⟩, _⟩ := q
          exact ho5.2 _ rfl
      have q2 := hg5.tag b (by omega) (tkT_lo hb)
      have q3 := tkT_lo (L := L) (ns := ns) hb
      rw [← q2, q1] at q3
      exact q3 (.inl rfl)
    · exact hb
  have HF : Hid (IsE w5 a5 (post.map Nd.e) ∧ (∀ b off, a5 = some ⟨b, off, none⟩ → w.heap.size ≤ b) ∧ Below w.heap.size w w5) := ⟨hi5, hfr5, hbl⟩
  clear hfr5 hbl ho5 hi5 hn5 h5 hg5 hz5 hTk g1 g2 g3 g4
  go_wp2
  go_quiet (fail)
  go_wp2
  go_ret2
  exact ⟨a5, c5, rfl, HF.out.1.below (below_drewN (Below.refl _ _) _), HF.out.2.1, below_drewN HF.out.2.2 _⟩
end Sk
end Go.Proofs.YtdflepndhemfgaaGreatDoor
namespace Go.Proofs.YtdflepndhemfgaaGreatDoor
namespace Sk
open Go.RowKit Go.Shelf Laws Irw Erw KMath Skm Byt
set_option linter.unusedVariables false
set_option maxRecDepth 100000
set_option linter.unusedSimpArgs false
attribute [local go_sem] Oper.semAt_some

set_option maxHeartbeats 2000000 in
/-- From's iterator, of any loop's yield. -/
theorem each_fn (u : Nat → Prop) (hu0 : ¬ u 0) (t : Nat) (ht : ¬ u t) (T0 : Nat → Nat) (p1 p2 p3 p4 Bl Bk Bs L : Nat) (k : ByteArray) (s : Int) (ns pre post : List Nd) (W : World) (hw : Wk W L k s ns pre post)
    (htg : ∀ nd ∈ ns, T0 nd.b = t) (htL : T0 L = t) (hz0 : ∀ b, W.heap.size ≤ b → T0 b = 0)
    (hBl : W.cell? ⟨Bl, 0, none⟩ = some (.pointer (some ⟨L, 0, none⟩))) (hBk : W.cell? ⟨Bk, 0, none⟩ = some (.string k)) (hBs : W.cell? ⟨Bs, 0, none⟩ = some (.int .u64 s))
    (J Jx : List En → (Nat → Nat) → World → Prop) (hJ : Lasts W.heap.size J) (hJx : Lasts W.heap.size Jx) (h0 : J [] T0 W)
    (hY : ∀ (es : List En) (e : En) T W1, J es T W1 → (∀ b, W1.heap.size ≤ b → T b = 0) → es.length < ns.length → Calls Tryz.prog 12 #[.agg #[.string e.1, .int .u64 e.2.1, .bool e.2.2.1, .string e.2.2.2], .pointer (some ⟨p1, 0, none⟩), .pointer (some ⟨p2, 0, none⟩), .pointer (some ⟨p3, 0, none⟩), .pointer (some ⟨p4, 0, none⟩)] W1 fun r W2 => ∃ b, r = .returned (.bool b) ∧ Gives u W.heap.size J Jx (es ++ [e]) T W1 b W2) :
    CallsIn Fence.wide 6 Tryz.prog 41 #[.func (.func 12) #[] #[.pointer (some ⟨p1, 0, none⟩), .pointer (some ⟨p2, 0, none⟩), .pointer (some ⟨p3, 0, none⟩), .pointer (some ⟨p4, 0, none⟩)], .pointer (some ⟨Bl, 0, none⟩), .pointer (some ⟨Bk, 0, none⟩), .pointer (some ⟨Bs, 0, none⟩)] W fun e W' => (∃ v, e = .returned v) ∧ ((∃ T', J (post.map Nd.e) T' W') ∨ ∃ es T', es <+: post.map Nd.e ∧ Jx es T' W') := by
  have HW : Hid (Wk W L k s ns pre post) := hw
  have HY : Hid (∀ (es : List En) (e : En) T W1, J es T W1 → (∀ b, W1.heap.size ≤ b → T b = 0) → es.length < ns.length → Calls Tryz.prog 12 #[.agg #[.string e.1, .int .u64 e.2.1, .bool e.2.2.1, .string e.2.2.2], .pointer (some ⟨p1, 0, none⟩), .pointer (some ⟨p2, 0, none⟩), .pointer (some ⟨p3, 0, none⟩), .pointer (some ⟨p4, 0, none⟩)] W1 fun r W2 => ∃ b, r = .returned (.bool b) ∧ Gives u W.heap.size J Jx (es ++ [e]) T W1 b W2) := hY
  have HJ : Hid (Lasts W.heap.size J ∧ Lasts W.heap.size Jx) := ⟨hJ, hJx⟩
  have H0 : Hid (J [] T0 W) := h0
  have HTG : Hid ((∀ nd ∈ ns, T0 nd.b = t) ∧ T0 L = t ∧ ∀ b, W.heap.size ≤ b → T0 b = 0) := ⟨htg, htL, hz0⟩
  have HUT : Hid (¬ u t ∧ ¬ u 0) := ⟨ht, hu0⟩
  clear hw hY hJ hJx h0 htg htL hz0 ht hu0
  refine callsIn_of_wp_marks Tryz.func41 rfl trivial ?_ rfl
  simp only [Tryz.ntmps41, List.size_toArray, List.length_cons, List.length_nil, Nat.reduceAdd, Nat.reduceSub, Array.replicate_succ, Array.replicate_zero, List.push_toArray, List.append_toArray, List.nil_append, List.cons_append]
  have hfB : Fence.wide.fn 19 := trivial
  have hfA : Fence.wide.fn 42 := trivial
  have hb1 : Below W.heap.size W (W.alloc (.cells #[.func (.func 12) #[] #[.pointer (some ⟨p1, 0, none⟩), .pointer (some ⟨p2, 0, none⟩), .pointer (some ⟨p3, 0, none⟩), .pointer (some ⟨p4, 0, none⟩)]] 63)) := (Below.refl _ _).alloc (Nat.le_refl _) _
  have g1 : (W.alloc (.cells #[.func (.func 12) #[] #[.pointer (some ⟨p1, 0, none⟩), .pointer (some ⟨p2, 0, none⟩), .pointer (some ⟨p3, 0, none⟩), .pointer (some ⟨p4, 0, none⟩)]] 63)).heap[W.heap.size]? = some (.cells #[.func (.func 12) #[] #[.pointer (some ⟨p1, 0, none⟩), .pointer (some ⟨p2, 0, none⟩), .pointer (some ⟨p3, 0, none⟩), .pointer (some ⟨p4, 0, none⟩)]] 63) := World.alloc_heap_new _ _
  have l1 := (hb1.cell (p := ⟨Bl, 0, none⟩) (World.block_lt_of_cell? W _ hBl)).trans hBl
  have k1 := (hb1.cell (p := ⟨Bk, 0, none⟩) (World.block_lt_of_cell? W _ hBk)).trans hBk
  have s1 := (hb1.cell (p := ⟨Bs, 0, none⟩) (World.block_lt_of_cell? W _ hBs)).trans hBs
  generalize hW1 : W.alloc (.cells #[.func (.func 12) #[] #[.pointer (some ⟨p1, 0, none⟩), .pointer (some ⟨p2, 0, none⟩), .pointer (some ⟨p3, 0, none⟩), .pointer (some ⟨p4, 0, none⟩)]] 63) = W1 at *
  have HW1 : Hid (Wk W1 L k s ns pre post) := HW.out.under hb1
  gi_wp2_with fail
  try rw [hW1]
  refine (callsIn_wide.2 (HW1.out.ahead false ⟨#[]⟩)).mono ?_
  rintro e w2 ⟨rfl, hb2⟩
  unfold lastV lp
  have HB2 : Hid (Below W.heap.size W w2) := hb1.trans (hb2.mono hb1.size)
  have hY1 : W.heap.size < W1.heap.size := (Array.getElem?_eq_some_iff.1 g1).1
  have g2 : w2.heap[W.heap.size]? = some (.cells #[.func (.func 12) #[] #[.pointer (some ⟨p1, 0, none⟩), .pointer (some ⟨p2, 0, none⟩), .pointer (some ⟨p3, 0, none⟩), .pointer (some ⟨p4, 0, none⟩)]] 63) := (hb2.block _ hY1).trans g1
  have hs2 := hb2.size
  clear hW1 l1 k1 s1 HW1 g1
  have hb3 : Below w2.heap.size w2 (w2.alloc (.cells #[.pointer (some ⟨lst L 0 pre, 0, none⟩), .pointer (some ⟨lst L 1 pre, 0, none⟩), .pointer (some ⟨lst L 2 pre, 0, none⟩), .pointer (some ⟨lst L 3 pre, 0, none⟩), .pointer (some ⟨lst L 4 pre, 0, none⟩), .pointer (some ⟨lst L 5 pre, 0, none⟩), .pointer (some ⟨lst L 6 pre, 0, none⟩), .pointer (some ⟨lst L 7 pre, 0, none⟩), .pointer (some ⟨lst L 8 pre, 0, none⟩), .pointer (some ⟨lst L 9 pre, 0, none⟩), .pointer (some ⟨lst L 10 pre, 0, none⟩), .pointer (some ⟨lst L 11 pre, 0, none⟩)] 70)) := (Below.refl _ _).alloc (Nat.le_refl _) _
  have a0 : (w2.alloc (.cells #[.pointer (some ⟨lst L 0 pre, 0, none⟩), .pointer (some ⟨lst L 1 pre, 0, none⟩), .pointer (some ⟨lst L 2 pre, 0, none⟩), .pointer (some ⟨lst L 3 pre, 0, none⟩), .pointer (some ⟨lst L 4 pre, 0, none⟩), .pointer (some ⟨lst L 5 pre, 0, none⟩), .pointer (some ⟨lst L 6 pre, 0, none⟩), .pointer (some ⟨lst L 7 pre, 0, none⟩), .pointer (some ⟨lst L 8 pre, 0, none⟩), .pointer (some ⟨lst L 9 pre, 0, none⟩), .pointer (some ⟨lst L 10 pre, 0, none⟩), .pointer (some ⟨lst L 11 pre, 0, none⟩)] 70)).cell? ⟨w2.heap.size, 0, none⟩ = some (.pointer (some ⟨lst L 0 pre, 0, none⟩)) := by rw [cell_of_obj (World.alloc_heap_new _ _)]; rfl
  have hs3 : (w2.alloc (.cells #[.pointer (some ⟨lst L 0 pre, 0, none⟩), .pointer (some ⟨lst L 1 pre, 0, none⟩), .pointer (some ⟨lst L 2 pre, 0, none⟩), .pointer (some ⟨lst L 3 pre, 0, none⟩), .pointer (some ⟨lst L 4 pre, 0, none⟩), .pointer (some ⟨lst L 5 pre, 0, none⟩), .pointer (some ⟨lst L 6 pre, 0, none⟩), .pointer (some ⟨lst L 7 pre, 0, none⟩), .pointer (some ⟨lst L 8 pre, 0, none⟩), .pointer (some ⟨lst L 9 pre, 0, none⟩), .pointer (some ⟨lst L 10 pre, 0, none⟩), .pointer (some ⟨lst L 11 pre, 0, none⟩)] 70)).heap.size = w2.heap.size + 1 := by simp
  generalize hW3 : w2.alloc (.cells #[.pointer (some ⟨lst L 0 pre, 0, none⟩), .pointer (some ⟨lst L 1 pre, 0, none⟩), .pointer (some ⟨lst L 2 pre, 0, none⟩), .pointer (some ⟨lst L 3 pre, 0, none⟩), .pointer (some ⟨lst L 4 pre, 0, none⟩), .pointer (some ⟨lst L 5 pre, 0, none⟩), .pointer (some ⟨lst L 6 pre, 0, none⟩), .pointer (some ⟨lst L 7 pre, 0, none⟩), .pointer (some ⟨lst L 8 pre, 0, none⟩), .pointer (some ⟨lst L 9 pre, 0, none⟩), .pointer (some ⟨lst L 10 pre, 0, none⟩), .pointer (some ⟨lst L 11 pre, 0, none⟩)] 70) = W3 at *
  gi_wp2_with (gi_at_call 19; refine (behind_in _ _ _ _).mono ?_; rintro e w' ⟨rfl, rfl⟩)
  try rw [hW3]
  clear hW3
  have HB3 : Hid (Below W.heap.size W W3) := HB2.out.trans (hb3.mono HB2.out.size)
  have g3 : W3.heap[W.heap.size]? = some (.cells #[.func (.func 12) #[] #[.pointer (some ⟨p1, 0, none⟩), .pointer (some ⟨p2, 0, none⟩), .pointer (some ⟨p3, 0, none⟩), .pointer (some ⟨p4, 0, none⟩)]] 63) := (hb3.block _ (by omega)).trans g2
  have hb5 : Below W3.heap.size W3 ((W3.alloc (.cells #[.pointer (some ⟨lst L 0 pre, 0, none⟩)] 69)).alloc (.cells #[.int .i64 0] 3)) := ((Below.refl _ _).alloc (Nat.le_refl _) _).alloc (by simp) _
  have bn : ((W3.alloc (.cells #[.pointer (some ⟨lst L 0 pre, 0, none⟩)] 69)).alloc (.cells #[.int .i64 0] 3)).cell? ⟨w2.heap.size + 1, 0, none⟩ = some (.pointer (some ⟨lst L 0 pre, 0, none⟩)) := by
    rw [World.cell?_of_block (Below.heap_alloc _ _ _ (by simp; omega)), ← hs3, World.cell?_alloc_at _ _ _ _ rfl]; rfl
  have bi : ((W3.alloc (.cells #[.pointer (some ⟨lst L 0 pre, 0, none⟩)] 69)).alloc (.cells #[.int .i64 0] 3)).cell? ⟨w2.heap.size + 1 + 1, 0, none⟩ = some (.int .i64 ((0 : Nat) : Int)) := by
    rw [World.cell?_alloc_at _ _ _ _ (by simp; omega)]; rfl
  have hs5 : ((W3.alloc (.cells #[.pointer (some ⟨lst L 0 pre, 0, none⟩)] 69)).alloc (.cells #[.int .i64 0] 3)).heap.size = w2.heap.size + 3 := by simp; omega
  generalize (W3.alloc (.cells #[.pointer (some ⟨lst L 0 pre, 0, none⟩)] 69)).alloc (.cells #[.int .i64 0] 3) = W5 at *
  have HB5 : Hid (Below W.heap.size W W5) := HB3.out.trans (hb5.mono HB3.out.size)
  have hg5 : W5.heap[W.heap.size]? = some (.cells #[.func (.func 12) #[] #[.pointer (some ⟨p1, 0, none⟩), .pointer (some ⟨p2, 0, none⟩), .pointer (some ⟨p3, 0, none⟩), .pointer (some ⟨p4, 0, none⟩)]] 63) := (hb5.block _ (by omega)).trans g3
  have hw5 := HW.out.under HB5.out
  obtain ⟨sh, hsh, hTs, hst, hsub⟩ := hw5.st
  have hnl : ∀ nd ∈ ns, nd.b < W.heap.size := fun nd hnd => HW.out.chain.lt hnd
  have hps1 : ∀ nd ∈ post, 1 ≤ nd.h := fun nd hnd => (HW.out.hts nd (by rw [HW.out.cut]; simp [hnd])).1
  clear hb1 hb2 hb3 hb5 g2 g3 a0
  refine wpIn_rangeFunc_ownG rfl (by decide) (gf := 46) (lb := #[.pointer (some ⟨w2.heap.size + 1, 0, none⟩), .pointer (some ⟨w2.heap.size + 1 + 1, 0, none⟩)]) rfl trivial (enters_of Tryz.func46 (by kernel_rfl) rfl)
    (behind_stops (6 - 1) (by decide) (w2.heap.size + 1) (w2.heap.size + 1 + 1) 0 (by omega) (lst L 0 pre) sh hsh post ns hsub W5 bn bi hTs hst hw5.chain) Kp.trans ?kb (Below.refl _ _) (fun _ => rfl)
    (fun come W' => ∃ T, J (come.map fun x => x.1.e) T W' ∧ Goes u T0 W T W' ∧ W5.heap.size ≤ W'.heap.size ∧ (∀ b, W.heap.size ≤ b → b < W5.heap.size → T b = 0 ∧ W'.heap[b]? = W5.heap[b]?) ∧ ∀ b, W'.heap.size ≤ b → T b = 0)
    (fun c come W' => c = .ret ∧ W5.heap.size ≤ W'.heap.size ∧ ∃ T, Jx (come.map fun x => x.1.e) T W')
    ?own1 ?own2 ⟨T0, HJ.out.1 [] T0 W W5 none H0.out ⟨HB5.out.os, HB5.out.tape, HB5.out.output, HB5.out.size, fun b hb _ => HB5.out.block b hb⟩ (fun r e => by cases e), Goes.below HB5.out, Nat.le_refl _, fun b hb _ => ⟨HTG.out.2.2 b hb, rfl⟩, fun b hb => HTG.out.2.2 b (by omega)⟩
    (fun x => { tmps := #[.func (.func 12) #[] #[.pointer (some ⟨p1, 0, none⟩), .pointer (some ⟨p2, 0, none⟩), .pointer (some ⟨p3, 0, none⟩), .pointer (some ⟨p4, 0, none⟩)], .pointer (some ⟨Bl, 0, none⟩), .pointer (some ⟨Bk, 0, none⟩), .pointer (some ⟨Bs, 0, none⟩), .pointer (some ⟨W.heap.size, 0, none⟩), .pointer (some ⟨w2.heap.size, 0, none⟩), .pointer (some ⟨x.1.b, 0, none⟩), .pointer (some ⟨L, 0, none⟩), .string k, .int .u64 s, .agg #[.string k, .int .u64 s, .bool false, .string ⟨#[]⟩], .agg #[.pointer (some ⟨lst L 0 pre, 0, none⟩), .pointer (some ⟨lst L 1 pre, 0, none⟩), .pointer (some ⟨lst L 2 pre, 0, none⟩), .pointer (some ⟨lst L 3 pre, 0, none⟩), .pointer (some ⟨lst L 4 pre, 0, none⟩), .pointer (some ⟨lst L 5 pre, 0, none⟩), .pointer (some ⟨lst L 6 pre, 0, none⟩), .pointer (some ⟨lst L 7 pre, 0, none⟩), .pointer (some ⟨lst L 8 pre, 0, none⟩), .pointer (some ⟨lst L 9 pre, 0, none⟩), .pointer (some ⟨lst L 10 pre, 0, none⟩), .pointer (some ⟨lst L 11 pre, 0, none⟩)], .pointer (some ⟨w2.heap.size, 0, none⟩), .pointer (some ⟨lst L 0 pre, 0, none⟩), .func (.func 46) #[] #[.pointer (some ⟨w2.heap.size + 1, 0, none⟩), .pointer (some ⟨w2.heap.size + 1 + 1, 0, none⟩)], .pointer (some ⟨x.1.b, 0, none⟩), undef, undef, undef, undef, undef, undef, undef], defers := [] }) ?assign ?body ?done ?stop
  case kb =>
    intro W' l o o' hl h _ _
    exact ⟨fun nd hnd => World.putObj_heap_other (by have := hnl nd hnd; omega), World.putObj_heap_other (by omega), World.putObj_heap_other (by omega)⟩
  case own1 =>
    rintro come A B row ⟨T, h1, h2, h3, h4, h5⟩ hg hr
    have hk : ∀ b, b < W5.heap.size → B.heap[b]? = A.heap[b]? := fun b hb => hg.block b (by omega) (fun e => by have := (hr b e.symm).1; omega)
    refine ⟨T, HJ.out.1 _ T A B row h1 hg (fun r e => ⟨by have := (hr r e).1; omega, (hr r e).2⟩), ?_, Nat.le_trans h3 hg.size, fun b hb hb2 => ⟨(h4 b hb hb2).1, (hk b hb2).trans (h4 b hb hb2).2⟩, fun b hb => h5 b (Nat.le_trans hg.size hb)⟩
    exact ⟨hg.os.trans h2.os, hg.tape.trans h2.tape, hg.output.trans h2.output, Nat.le_trans h2.size hg.size, fun b hb hu => (hk b (by omega)).trans (h2.block b hb hu), h2.tag, fun b hb h0 => h2.high b (Nat.le_trans hg.size hb) h0⟩
  case own2 =>
    rintro c come A B row ⟨h00, h3, T, h1⟩ hg hr
    exact ⟨h00, Nat.le_trans h3 hg.size, T, HJ.out.2 _ T A B row h1 hg (fun r e => ⟨by have := (hr r e).1; omega, (hr r e).2⟩)⟩
  case assign =>
    intro l1 x W' K' hK'
    simp only [encN]
    gi_wp2
    exact hK'
  case body =>
    rintro l1 come x W' ⟨T, hTk, hgo, hsW, hkW, hzW⟩ hcl
    obtain ⟨rx, hnx⟩ := HW.out.chain.node x.2
    obtain ⟨c0, c1, c2, c3⟩ := (hnx.keep (hgo.block _ (hnl _ x.2) (by rw [HTG.out.1 _ x.2]; exact HUT.out.1))).ent
    have y0 : W'.cell? ⟨W.heap.size, 0, none⟩ = some (.func (.func 12) #[] #[.pointer (some ⟨p1, 0, none⟩), .pointer (some ⟨p2, 0, none⟩), .pointer (some ⟨p3, 0, none⟩), .pointer (some ⟨p4, 0, none⟩)]) := by
      rw [cell_of_obj ((hkW _ (Nat.le_refl _) (by omega)).2.trans hg5)]; rfl
    have hJd := HJ.out.1 _ T W' W'.drew none hTk ⟨rfl, rfl, rfl, Nat.le_refl _, fun _ _ _ => rfl⟩ (fun r e => by cases e)
    have hR := HY.out _ x.1.e T W'.drew hJd hzW (by rw [List.length_map]; exact hcl)
    have HCL : Hid _ := hR
    have hfT : Fence.wide.fn 12 := trivial
    clear hR
    have HIN : Hid (Goes u T0 W T W' ∧ W5.heap.size ≤ W'.heap.size ∧ (∀ b, W.heap.size ≤ b → b < W5.heap.size → T b = 0 ∧ W'.heap[b]? = W5.heap[b]?)) := ⟨hgo, hsW, hkW⟩
    have HMP : Hid ((come ++ [x]).map (fun x : Of ns => x.1.e) = (come.map fun x => x.1.e) ++ [x.1.e]) := by show _ = _; rw [List.map_append]; rfl
    obtain ⟨⟨xb, ⟨xk, xs, xd, xv⟩, xh⟩, hxm⟩ := x
    dsimp only at *
    clear hTk hgo hkW hzW hnx hJd
    gi_wp2
    gi_region_with (gi_at_call 12; refine (CallsIn.inRound l1 (callsIn_wide.2 HCL.out)).mono ?_; rintro r W2 ⟨bo, rfl, hj2⟩)
    all_goals (
      have HJ2 : Hid (Gives u W.heap.size J Jx ((come.map fun x : Of ns => x.1.e) ++ [(xk, xs, xd, xv)]) T W'.drew bo W2) := hj2
      clear hj2
      obtain ⟨hgo, hsW, hkW⟩ := HIN.out
      cases bo with
      | true =>
        gi_wp2
        obtain ⟨T2, q4, q5, _⟩ := HJ2.out
        obtain ⟨q1, q2, q3⟩ := q5 rfl
        have q2' : Goes u T W' T2 W2 := (Goes.below (Below.refl _ _).drew).trans q2
        have hold : ∀ b, W.heap.size ≤ b → b < W5.heap.size → T2 b = 0 ∧ W2.heap[b]? = W5.heap[b]? := fun b hb hb2 => by
          obtain ⟨e1, e2⟩ := hkW b hb hb2
          have hu : ¬ u (T b) := by rw [e1]; exact HUT.out.2
          exact ⟨(q2'.tag b (by omega) hu).trans e1, (q2'.block b (by omega) hu).trans e2⟩
        refine ⟨⟨q4.size, fun k o hB hk ho => q4.same k o (by omega) hk ho⟩, ⟨fun nd hnd => ?_, ?_, ?_⟩, T2, by rw [HMP.out]; exact q1, hgo.trans q2', Nat.le_trans hsW q2'.size, hold, q3⟩
        · have e1 := hgo.tag _ (hnl nd hnd) (by rw [HTG.out.1 nd hnd]; exact HUT.out.1)
          exact q2'.block _ (Nat.lt_of_lt_of_le (hnl nd hnd) hgo.size) (by rw [e1, HTG.out.1 nd hnd]; exact HUT.out.1)
        · exact (hold _ (by omega) (by omega)).2.trans (hkW _ (by omega) (by omega)).2.symm
        · exact (hold _ (by omega) (by omega)).2.trans (hkW _ (by omega) (by omega)).2.symm
      | false =>
        gi_wp2
        obtain ⟨T2, q4, _, q5⟩ := HJ2.out
        exact ⟨⟨q4.size, fun k o hB hk ho => q4.same k o (by omega) hk ho⟩, rfl, Nat.le_trans hsW q4.size, T2, by rw [HMP.out]; exact q5 rfl⟩)
  case done =>
    rintro D come W' hD hcome ⟨T, hTk, hgo, hsW, hkW, hzW⟩ hDd
    have HEQ : Hid ((come.map fun x => x.1.e) = post.map Nd.e) := by
      rw [lev0 hps1] at hcome
      have := congrArg (List.map Nd.e) hcome
      rw [List.map_map] at this
      exact this
    clear hcome
    gi_wp2
    refine ⟨by simp, .inl ⟨_, _, rfl, run_takeDeferred hDd, ?_⟩⟩
    refine ⟨_, results_none rfl _ _ _, ⟨_, rfl⟩, .inl ⟨T, ?_⟩⟩
    rw [← HEQ.out]
    exact HJ.out.1 _ T W' _ (some D) hTk (grownBy_putObj' W' D (.deferred none)) (fun r e => by cases e; exact ⟨by omega, _, hDd, rfl⟩)
  case stop =>
    rintro D c come W' hD hcome ⟨rfl, hsW, T, hTk⟩ hDd
    have HEQ : Hid ((come.map fun x => x.1.e) <+: post.map Nd.e) := by
      rw [lev0 hps1] at hcome
      obtain ⟨r, hr⟩ := hcome
      refine ⟨r.map Nd.e, ?_⟩
      have := congrArg (List.map Nd.e) hr
      rw [List.map_append, List.map_map] at this
      exact this
    clear hcome
    gi_wp2
    refine ⟨by simp, .inl ⟨_, _, rfl, run_takeDeferred hDd, ?_⟩⟩
    exact ⟨_, results_none rfl _ _ _, ⟨_, rfl⟩, .inr ⟨_, T, HEQ.out, HJ.out.2 _ T W' _ (some D) hTk (grownBy_putObj' W' D (.deferred none)) (fun r e => by cases e; exact ⟨by omega, _, hDd, rfl⟩)⟩⟩
end Sk
end Go.Proofs.YtdflepndhemfgaaGreatDoor
