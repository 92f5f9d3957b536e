import Derived.Test.YtcioaoanhmpdkaaTk3
namespace Go.Proofs.Ytcioaoanhmpdkaa
namespace Sk
open Go.RowKit Go.Shelf Laws Irw Erw KMath Skm Byt
set_option linter.unusedVariables false
set_option maxRecDepth 100000
set_option linter.unusedSimpArgs false
attribute [local go_sem] Oper.semAt_some

/-- at most n of them, below 0: all -/
def tkn (n : Int) (l : List En) : List En := if n < 0 then l else l.take n.toNat
theorem tkn_all {n : Int} {l : List En} (h : n < 0 ∨ (l.length : Int) < n) : tkn n l = l := by
  unfold tkn
  split
  · rfl
  · exact List.take_of_length_le (by omega)
theorem tkn_some {n : Int} {l r : List En} (h : (l.length : Int) = n) : tkn n (l ++ r) = l := by
  unfold tkn
  rw [if_neg (by omega)]
  have : n.toNat = l.length := by omega
  rw [this, List.take_left]
set_option maxHeartbeats 2000000 in
/-- From's iterator, gone through by taken, at most nn. -/
theorem some_in (t : Nat) (ht : ¬ uT t) (T0 : Nat → Nat) (Bl Bk Bs L N : Nat) (k : ByteArray) (s : Int) (ns pre post : List Nd) (W : World) (hw : Wk W L k s ns pre post)
    (htg : ∀ nd ∈ ns, T0 nd.b = t) (htL : T0 L = t) (hz0 : ∀ b, W.heap.size ≤ b → T0 b = 0) (hN : N + 4 ≤ W.heap.size)
    (hBl : W.cell? ⟨Bl, 0, none⟩ = some (.pointer (some ⟨L, 0, none⟩))) (hBk : W.cell? ⟨Bk, 0, none⟩ = some (.string k)) (hBs : W.cell? ⟨Bs, 0, none⟩ = some (.int .u64 s))
    (nn : Int) (hnn : nn ≠ 0) (htk : Tk T0 W N nn false []) (hlen : ns.length ≤ 2932031007402) :
    CallsIn Fence.wide 6 Try.prog 88 #[.func (.func 72) #[] #[.pointer (some ⟨N + 3, 0, none⟩), .pointer (some ⟨N + 2, 0, none⟩), .pointer (some ⟨N + 1, 0, none⟩), .pointer (some ⟨N, 0, none⟩)], .pointer (some ⟨Bl, 0, none⟩), .pointer (some ⟨Bk, 0, none⟩), .pointer (some ⟨Bs, 0, none⟩)] W fun e W' => (∃ v, e = .returned v) ∧ ∃ T' en, Tk T' W' N nn en (tkn nn (post.map Nd.e)) ∧ Goes uT T0 W T' W' ∧ ∀ b, W'.heap.size ≤ b → T' b = 0 := by
  have HW : Hid (Wk W L k s ns pre post) := hw
  have HTK : Hid (Tk T0 W N nn false []) := htk
  have HTG : Hid ((∀ nd ∈ ns, T0 nd.b = t) ∧ T0 L = t ∧ ∀ b, W.heap.size ≤ b → T0 b = 0) := ⟨htg, htL, hz0⟩
  have HUT : Hid (¬ uT t) := ht
  clear hw htk htg htL hz0 ht
  refine callsIn_of_wp_marks Try.func88 rfl trivial ?_ rfl
  simp only [Try.ntmps88, List.size_toArray, List.length_cons, List.length_nil, Nat.reduceAdd, Nat.reduceSub, Array.replicate_succ, Array.replicate_zero, List.push_toArray, List.append_toArray, List.nil_append, List.cons_append]
  have hfB : Fence.wide.fn 90 := trivial
  have hfA : Fence.wide.fn 89 := trivial
  have hb1 : Below W.heap.size W (W.alloc (.cells #[.func (.func 72) #[] #[.pointer (some ⟨N + 3, 0, none⟩), .pointer (some ⟨N + 2, 0, none⟩), .pointer (some ⟨N + 1, 0, none⟩), .pointer (some ⟨N, 0, none⟩)]] 92)) := (Below.refl _ _).alloc (Nat.le_refl _) _
  have g1 : (W.alloc (.cells #[.func (.func 72) #[] #[.pointer (some ⟨N + 3, 0, none⟩), .pointer (some ⟨N + 2, 0, none⟩), .pointer (some ⟨N + 1, 0, none⟩), .pointer (some ⟨N, 0, none⟩)]] 92)).heap[W.heap.size]? = some (.cells #[.func (.func 72) #[] #[.pointer (some ⟨N + 3, 0, none⟩), .pointer (some ⟨N + 2, 0, none⟩), .pointer (some ⟨N + 1, 0, none⟩), .pointer (some ⟨N, 0, none⟩)]] 92) := World.alloc_heap_new _ _
  have l1 := (hb1.cell (p := ⟨Bl, 0, none⟩) (World.block_lt_of_cell? W _ hBl)).trans hBl
  have k1 := (hb1.cell (p := ⟨Bk, 0, none⟩) (World.block_lt_of_cell? W _ hBk)).trans hBk
  have s1 := (hb1.cell (p := ⟨Bs, 0, none⟩) (World.block_lt_of_cell? W _ hBs)).trans hBs
  generalize hW1 : W.alloc (.cells #[.func (.func 72) #[] #[.pointer (some ⟨N + 3, 0, none⟩), .pointer (some ⟨N + 2, 0, none⟩), .pointer (some ⟨N + 1, 0, none⟩), .pointer (some ⟨N, 0, none⟩)]] 92) = W1 at *
  have HW1 : Hid (Wk W1 L k s ns pre post) := HW.out.under hb1
  gi_wp2_with fail
  try rw [hW1]
  refine (callsIn_wide.2 (HW1.out.ahead false ⟨#[]⟩)).mono ?_
  rintro e w2 ⟨rfl, hb2⟩
  unfold lastV lp
  have HB2 : Hid (Below W.heap.size W w2) := hb1.trans (hb2.mono hb1.size)
  have hY1 : W.heap.size < W1.heap.size := (Array.getElem?_eq_some_iff.1 g1).1
  have g2 : w2.heap[W.heap.size]? = some (.cells #[.func (.func 72) #[] #[.pointer (some ⟨N + 3, 0, none⟩), .pointer (some ⟨N + 2, 0, none⟩), .pointer (some ⟨N + 1, 0, none⟩), .pointer (some ⟨N, 0, none⟩)]] 92) := (hb2.block _ hY1).trans g1
  have hs2 := hb2.size
  clear hW1 l1 k1 s1 HW1 g1
  have hb3 : Below w2.heap.size w2 (w2.alloc (.cells #[.pointer (some ⟨lst L 0 pre, 0, none⟩), .pointer (some ⟨lst L 1 pre, 0, none⟩), .pointer (some ⟨lst L 2 pre, 0, none⟩), .pointer (some ⟨lst L 3 pre, 0, none⟩), .pointer (some ⟨lst L 4 pre, 0, none⟩), .pointer (some ⟨lst L 5 pre, 0, none⟩), .pointer (some ⟨lst L 6 pre, 0, none⟩), .pointer (some ⟨lst L 7 pre, 0, none⟩), .pointer (some ⟨lst L 8 pre, 0, none⟩), .pointer (some ⟨lst L 9 pre, 0, none⟩), .pointer (some ⟨lst L 10 pre, 0, none⟩), .pointer (some ⟨lst L 11 pre, 0, none⟩)] 120)) := (Below.refl _ _).alloc (Nat.le_refl _) _
  have a0 : (w2.alloc (.cells #[.pointer (some ⟨lst L 0 pre, 0, none⟩), .pointer (some ⟨lst L 1 pre, 0, none⟩), .pointer (some ⟨lst L 2 pre, 0, none⟩), .pointer (some ⟨lst L 3 pre, 0, none⟩), .pointer (some ⟨lst L 4 pre, 0, none⟩), .pointer (some ⟨lst L 5 pre, 0, none⟩), .pointer (some ⟨lst L 6 pre, 0, none⟩), .pointer (some ⟨lst L 7 pre, 0, none⟩), .pointer (some ⟨lst L 8 pre, 0, none⟩), .pointer (some ⟨lst L 9 pre, 0, none⟩), .pointer (some ⟨lst L 10 pre, 0, none⟩), .pointer (some ⟨lst L 11 pre, 0, none⟩)] 120)).cell? ⟨w2.heap.size, 0, none⟩ = some (.pointer (some ⟨lst L 0 pre, 0, none⟩)) := by rw [cell_of_obj (World.alloc_heap_new _ _)]; rfl
  have hs3 : (w2.alloc (.cells #[.pointer (some ⟨lst L 0 pre, 0, none⟩), .pointer (some ⟨lst L 1 pre, 0, none⟩), .pointer (some ⟨lst L 2 pre, 0, none⟩), .pointer (some ⟨lst L 3 pre, 0, none⟩), .pointer (some ⟨lst L 4 pre, 0, none⟩), .pointer (some ⟨lst L 5 pre, 0, none⟩), .pointer (some ⟨lst L 6 pre, 0, none⟩), .pointer (some ⟨lst L 7 pre, 0, none⟩), .pointer (some ⟨lst L 8 pre, 0, none⟩), .pointer (some ⟨lst L 9 pre, 0, none⟩), .pointer (some ⟨lst L 10 pre, 0, none⟩), .pointer (some ⟨lst L 11 pre, 0, none⟩)] 120)).heap.size = w2.heap.size + 1 := by simp
  generalize hW3 : w2.alloc (.cells #[.pointer (some ⟨lst L 0 pre, 0, none⟩), .pointer (some ⟨lst L 1 pre, 0, none⟩), .pointer (some ⟨lst L 2 pre, 0, none⟩), .pointer (some ⟨lst L 3 pre, 0, none⟩), .pointer (some ⟨lst L 4 pre, 0, none⟩), .pointer (some ⟨lst L 5 pre, 0, none⟩), .pointer (some ⟨lst L 6 pre, 0, none⟩), .pointer (some ⟨lst L 7 pre, 0, none⟩), .pointer (some ⟨lst L 8 pre, 0, none⟩), .pointer (some ⟨lst L 9 pre, 0, none⟩), .pointer (some ⟨lst L 10 pre, 0, none⟩), .pointer (some ⟨lst L 11 pre, 0, none⟩)] 120) = W3 at *
  gi_wp2_with (gi_at_call 90; refine (behind_in _ _ _ _).mono ?_; rintro e w' ⟨rfl, rfl⟩)
  try rw [hW3]
  clear hW3
  have HB3 : Hid (Below W.heap.size W W3) := HB2.out.trans (hb3.mono HB2.out.size)
  have g3 : W3.heap[W.heap.size]? = some (.cells #[.func (.func 72) #[] #[.pointer (some ⟨N + 3, 0, none⟩), .pointer (some ⟨N + 2, 0, none⟩), .pointer (some ⟨N + 1, 0, none⟩), .pointer (some ⟨N, 0, none⟩)]] 92) := (hb3.block _ (by omega)).trans g2
  have hb5 : Below W3.heap.size W3 ((W3.alloc (.cells #[.pointer (some ⟨lst L 0 pre, 0, none⟩)] 119)).alloc (.cells #[.int .i64 0] 3)) := ((Below.refl _ _).alloc (Nat.le_refl _) _).alloc (by simp) _
  have bn : ((W3.alloc (.cells #[.pointer (some ⟨lst L 0 pre, 0, none⟩)] 119)).alloc (.cells #[.int .i64 0] 3)).cell? ⟨w2.heap.size + 1, 0, none⟩ = some (.pointer (some ⟨lst L 0 pre, 0, none⟩)) := by
    rw [World.cell?_of_block (Below.heap_alloc _ _ _ (by simp; omega)), ← hs3, World.cell?_alloc_at _ _ _ _ rfl]; rfl
  have bi : ((W3.alloc (.cells #[.pointer (some ⟨lst L 0 pre, 0, none⟩)] 119)).alloc (.cells #[.int .i64 0] 3)).cell? ⟨w2.heap.size + 1 + 1, 0, none⟩ = some (.int .i64 ((0 : Nat) : Int)) := by
    rw [World.cell?_alloc_at _ _ _ _ (by simp; omega)]; rfl
  have hs5 : ((W3.alloc (.cells #[.pointer (some ⟨lst L 0 pre, 0, none⟩)] 119)).alloc (.cells #[.int .i64 0] 3)).heap.size = w2.heap.size + 3 := by simp; omega
  generalize (W3.alloc (.cells #[.pointer (some ⟨lst L 0 pre, 0, none⟩)] 119)).alloc (.cells #[.int .i64 0] 3) = W5 at *
  have HB5 : Hid (Below W.heap.size W W5) := HB3.out.trans (hb5.mono HB3.out.size)
  have hg5 : W5.heap[W.heap.size]? = some (.cells #[.func (.func 72) #[] #[.pointer (some ⟨N + 3, 0, none⟩), .pointer (some ⟨N + 2, 0, none⟩), .pointer (some ⟨N + 1, 0, none⟩), .pointer (some ⟨N, 0, none⟩)]] 92) := (hb5.block _ (by omega)).trans g3
  have hw5 := HW.out.under HB5.out
  obtain ⟨sh, hsh, hTs, hst, hsub⟩ := hw5.st
  have hnl : ∀ nd ∈ ns, nd.b < W.heap.size := fun nd hnd => HW.out.chain.lt hnd
  have hps1 : ∀ nd ∈ post, 1 ≤ nd.h := fun nd hnd => (HW.out.hts nd (by rw [HW.out.cut]; simp [hnd])).1
  clear hb1 hb2 hb3 hb5 g2 g3 a0
  refine wpIn_rangeFunc_ownG rfl (by decide) (gf := 100) (lb := #[.pointer (some ⟨w2.heap.size + 1, 0, none⟩), .pointer (some ⟨w2.heap.size + 1 + 1, 0, none⟩)]) rfl trivial (enters_of Try.func100 (by kernel_rfl) rfl)
    (behind_stops (6 - 1) (by decide) (w2.heap.size + 1) (w2.heap.size + 1 + 1) 0 (by omega) (lst L 0 pre) sh hsh post ns hsub W5 bn bi hTs hst hw5.chain) Kp.trans ?kb (Below.refl _ _) (fun _ => rfl)
    (fun come W' => (nn < 0 ∨ (come.length : Int) < nn) ∧ ∃ T, Tk T W' N nn false (come.map fun x => x.1.e) ∧ Goes uT T0 W T W' ∧ W5.heap.size ≤ W'.heap.size ∧ (∀ b, W.heap.size ≤ b → b < W5.heap.size → T b = 0 ∧ W'.heap[b]? = W5.heap[b]?) ∧ ∀ b, W'.heap.size ≤ b → T b = 0)
    (fun c come W' => c = .ret ∧ (come.length : Int) = nn ∧ ∃ T, Tk T W' N nn true (come.map fun x => x.1.e) ∧ Goes uT T0 W T W' ∧ W5.heap.size ≤ W'.heap.size ∧ ∀ b, W'.heap.size ≤ b → T b = 0)
    ?own1 ?own2 ⟨by simp; omega, T0, HTK.out.below HB5.out, Goes.below HB5.out, Nat.le_refl _, fun b hb _ => ⟨HTG.out.2.2 b hb, rfl⟩, fun b hb => HTG.out.2.2 b (by omega)⟩
    (fun x => { tmps := #[.func (.func 72) #[] #[.pointer (some ⟨N + 3, 0, none⟩), .pointer (some ⟨N + 2, 0, none⟩), .pointer (some ⟨N + 1, 0, none⟩), .pointer (some ⟨N, 0, none⟩)], .pointer (some ⟨Bl, 0, none⟩), .pointer (some ⟨Bk, 0, none⟩), .pointer (some ⟨Bs, 0, none⟩), .pointer (some ⟨W.heap.size, 0, none⟩), .pointer (some ⟨w2.heap.size, 0, none⟩), .pointer (some ⟨x.1.b, 0, none⟩), .pointer (some ⟨L, 0, none⟩), .string k, .int .u64 s, .agg #[.string k, .int .u64 s, .bool false, .string ⟨#[]⟩], .agg #[.pointer (some ⟨lst L 0 pre, 0, none⟩), .pointer (some ⟨lst L 1 pre, 0, none⟩), .pointer (some ⟨lst L 2 pre, 0, none⟩), .pointer (some ⟨lst L 3 pre, 0, none⟩), .pointer (some ⟨lst L 4 pre, 0, none⟩), .pointer (some ⟨lst L 5 pre, 0, none⟩), .pointer (some ⟨lst L 6 pre, 0, none⟩), .pointer (some ⟨lst L 7 pre, 0, none⟩), .pointer (some ⟨lst L 8 pre, 0, none⟩), .pointer (some ⟨lst L 9 pre, 0, none⟩), .pointer (some ⟨lst L 10 pre, 0, none⟩), .pointer (some ⟨lst L 11 pre, 0, none⟩)], .pointer (some ⟨w2.heap.size, 0, none⟩), .pointer (some ⟨lst L 0 pre, 0, none⟩), .func (.func 100) #[] #[.pointer (some ⟨w2.heap.size + 1, 0, none⟩), .pointer (some ⟨w2.heap.size + 1 + 1, 0, none⟩)], .pointer (some ⟨x.1.b, 0, none⟩), undef, undef, undef, undef, undef, undef, undef], defers := [] }) ?assign ?body ?done ?stop
  case kb =>
    intro W' l o o' hl h _ _
    exact ⟨fun nd hnd => World.putObj_heap_other (by have := hnl nd hnd; omega), World.putObj_heap_other (by omega), World.putObj_heap_other (by omega)⟩
  case own1 =>
    rintro come A B row ⟨h0, T, h1, h2, h3, h4, h5⟩ hg hr
    have hk : ∀ b, b < W5.heap.size → B.heap[b]? = A.heap[b]? := fun b hb => hg.block b (by omega) (fun e => by have := (hr b e.symm).1; omega)
    refine ⟨h0, T, h1.own hg (fun r e => ⟨by have := (hr r e).1; omega, (hr r e).2⟩), ?_, Nat.le_trans h3 hg.size, fun b hb hb2 => ⟨(h4 b hb hb2).1, (hk b hb2).trans (h4 b hb hb2).2⟩, fun b hb => h5 b (Nat.le_trans hg.size hb)⟩
    exact ⟨hg.os.trans h2.os, hg.tape.trans h2.tape, hg.output.trans h2.output, Nat.le_trans h2.size hg.size, fun b hb hu => (hk b (by omega)).trans (h2.block b hb hu), h2.tag, fun b hb h0 => h2.high b (Nat.le_trans hg.size hb) h0⟩
  case own2 =>
    rintro c come A B row ⟨h00, h0, T, h1, h2, h3, h5⟩ hg hr
    have hk : ∀ b, b < W5.heap.size → B.heap[b]? = A.heap[b]? := fun b hb => hg.block b (by omega) (fun e => by have := (hr b e.symm).1; omega)
    refine ⟨h00, h0, T, h1.own hg (fun r e => ⟨by have := (hr r e).1; omega, (hr r e).2⟩), ?_, Nat.le_trans h3 hg.size, fun b hb => h5 b (Nat.le_trans hg.size hb)⟩
    exact ⟨hg.os.trans h2.os, hg.tape.trans h2.tape, hg.output.trans h2.output, Nat.le_trans h2.size hg.size, fun b hb hu => (hk b (by omega)).trans (h2.block b hb hu), h2.tag, fun b hb h0 => h2.high b (Nat.le_trans hg.size hb) h0⟩
  case assign =>
    intro l1 x W' K' hK'
    simp only [encN]
    gi_wp2
    exact hK'
  case body =>
    rintro l1 come x W' ⟨hnb, T, hTk, hgo, hsW, hkW, hzW⟩ hcl
    obtain ⟨rx, hnx⟩ := HW.out.chain.node x.2
    obtain ⟨c0, c1, c2, c3⟩ := (hnx.keep (hgo.block _ (hnl _ x.2) (by rw [HTG.out.1 _ x.2]; exact HUT.out))).ent
    have y0 : W'.cell? ⟨W.heap.size, 0, none⟩ = some (.func (.func 72) #[] #[.pointer (some ⟨N + 3, 0, none⟩), .pointer (some ⟨N + 2, 0, none⟩), .pointer (some ⟨N + 1, 0, none⟩), .pointer (some ⟨N, 0, none⟩)]) := by
      rw [cell_of_obj ((hkW _ (Nat.le_refl _) (by omega)).2.trans hg5)]; rfl
    have hfT : Fence.wide.fn 72 := trivial
    have HCL : Hid (Calls Try.prog 72 #[.agg #[.string x.1.e.1, .int .u64 x.1.e.2.1, .bool x.1.e.2.2.1, .string x.1.e.2.2.2], .pointer (some ⟨N + 3, 0, none⟩), .pointer (some ⟨N + 2, 0, none⟩), .pointer (some ⟨N + 1, 0, none⟩), .pointer (some ⟨N, 0, none⟩)] W'.drew fun r w' => r = .returned (.bool (!decide ((come.length : Int) + 1 = nn))) ∧ ∃ T', Tk T' w' N nn (decide ((come.length : Int) + 1 = nn)) ((come ++ [x]).map fun x => x.1.e) ∧ Goes uT T W' T' w' ∧ (∀ b, w'.heap.size ≤ b → T' b = 0) ∧ KeepsOthers W' w') := by
      have hd : Below W'.heap.size W' W'.drew := (Below.refl _ _).drew
      have h9 := takenc_any T W'.drew N nn (come.map fun x => x.1.e) x.1.e (hTk.below hd) (by simp; omega) hzW
      rw [List.length_map] at h9
      refine h9.mono ?_
      rintro r w9 ⟨hr, T9, q1, q2, q3, q4⟩
      exact ⟨hr, T9, by rw [List.map_append]; exact q1, (Goes.below hd).trans q2, q3, (KeepsOthers.drew _).trans q4⟩
    have HIN : Hid (Goes uT T0 W T W' ∧ W5.heap.size ≤ W'.heap.size ∧ (∀ b, W.heap.size ≤ b → b < W5.heap.size → T b = 0 ∧ W'.heap[b]? = W5.heap[b]?)) := ⟨hgo, hsW, hkW⟩
    by_cases hst9 : (come.length : Int) + 1 = nn
    · have e9 : decide ((come.length : Int) + 1 = nn) = true := decide_eq_true hst9
      have HNB : Hid (((come ++ [x]).length : Int) = nn) := by show ((come ++ [x]).length : Int) = nn; simp; omega
      rw [e9] at HCL
      clear e9 hst9 hnb
      obtain ⟨⟨xb, ⟨xk, xs, xd, xv⟩, xh⟩, hxm⟩ := x
      dsimp only at *
      clear hTk hgo hkW hzW hnx
      gi_wp2
      gi_region_with (gi_at_call 72; refine (CallsIn.inRound l1 (callsIn_wide.2 HCL.out)).mono ?_; rintro r W2 ⟨rfl, hj2⟩)
      all_goals (
        have HJ2 : Hid _ := hj2
        clear hj2
        gi_wp2
        obtain ⟨T2, q1, q2, q3, q4⟩ := HJ2.out
        obtain ⟨hgo, hsW, hkW⟩ := HIN.out
        have h0 : ¬ uT 0 := by unfold uT; omega
        have hold : ∀ b, W.heap.size ≤ b → b < W5.heap.size → T2 b = 0 ∧ W2.heap[b]? = W5.heap[b]? := fun b hb hb2 => by
          obtain ⟨e1, e2⟩ := hkW b hb hb2
          have hu : ¬ uT (T b) := by rw [e1]; exact h0
          exact ⟨(q2.tag b (by omega) hu).trans e1, (q2.block b (by omega) hu).trans e2⟩
        refine ⟨q4.from _, rfl, HNB.out, T2, q1, hgo.trans q2, Nat.le_trans hsW q2.size, q3⟩)
    · have e9 : decide ((come.length : Int) + 1 = nn) = false := decide_eq_false hst9
      have HNB : Hid (nn < 0 ∨ ((come ++ [x]).length : Int) < nn) := by show nn < 0 ∨ ((come ++ [x]).length : Int) < nn; simp; omega
      rw [e9] at HCL
      clear e9 hst9 hnb
      obtain ⟨⟨xb, ⟨xk, xs, xd, xv⟩, xh⟩, hxm⟩ := x
      dsimp only at *
      clear hTk hgo hkW hzW hnx
      gi_wp2
      gi_region_with (gi_at_call 72; refine (CallsIn.inRound l1 (callsIn_wide.2 HCL.out)).mono ?_; rintro r W2 ⟨rfl, hj2⟩)
      all_goals (
        have HJ2 : Hid _ := hj2
        clear hj2
        gi_wp2
        obtain ⟨T2, q1, q2, q3, q4⟩ := HJ2.out
        obtain ⟨hgo, hsW, hkW⟩ := HIN.out
        have h0 : ¬ uT 0 := by unfold uT; omega
        have hold : ∀ b, W.heap.size ≤ b → b < W5.heap.size → T2 b = 0 ∧ W2.heap[b]? = W5.heap[b]? := fun b hb hb2 => by
          obtain ⟨e1, e2⟩ := hkW b hb hb2
          have hu : ¬ uT (T b) := by rw [e1]; exact h0
          exact ⟨(q2.tag b (by omega) hu).trans e1, (q2.block b (by omega) hu).trans e2⟩
        refine ⟨q4.from _, ⟨fun nd hnd => ?_, ?_, ?_⟩, HNB.out, T2, q1, hgo.trans q2, Nat.le_trans hsW q2.size, hold, q3⟩
        · have e1 := hgo.tag _ (hnl nd hnd) (by rw [HTG.out.1 nd hnd]; exact HUT.out)
          exact q2.block _ (Nat.lt_of_lt_of_le (hnl nd hnd) hgo.size) (by rw [e1, HTG.out.1 nd hnd]; exact HUT.out)
        · exact (hold _ (by omega) (by omega)).2.trans (hkW _ (by omega) (by omega)).2.symm
        · exact (hold _ (by omega) (by omega)).2.trans (hkW _ (by omega) (by omega)).2.symm)
  case done =>
    rintro D come W' hD hcome ⟨hnb, T, hTk, hgo, hsW, hkW, hzW⟩ hDd
    have HEQ : Hid ((come.map fun x => x.1.e) = tkn nn (post.map Nd.e)) := by
      rw [lev0 hps1] at hcome
      have := congrArg (List.map Nd.e) hcome
      rw [List.map_map] at this
      have h9 : (come.map fun x => x.1.e) = post.map Nd.e := this
      rw [← h9]
      exact (tkn_all (by rw [List.length_map]; exact hnb)).symm
    clear hcome hnb
    gi_wp2
    refine ⟨by simp, .inl ⟨_, _, rfl, run_takeDeferred hDd, ?_⟩⟩
    have hgp := grownBy_putObj' W' D (.deferred none)
    refine ⟨_, results_none rfl _ _ _, ⟨_, rfl⟩, T, false, ?_, ?_, fun b hb => hzW b (by simpa using hb)⟩
    · rw [← HEQ.out]
      exact hTk.own hgp (fun r e => by cases e; exact ⟨by omega, _, hDd, rfl⟩)
    · exact ⟨hgo.os, hgo.tape, hgo.output, by simpa using hgo.size, fun b hb hu => (World.putObj_heap_other (by omega)).trans (hgo.block b hb hu), hgo.tag, fun b hb h0 => hgo.high b (by simpa using hb) h0⟩
  case stop =>
    rintro D c come W' hD hcome ⟨rfl, hnb, T, hTk, hgo, hsW, hzW⟩ hDd
    have HEQ : Hid ((come.map fun x => x.1.e) = tkn nn (post.map Nd.e)) := by
      rw [lev0 hps1] at hcome
      obtain ⟨r, hr⟩ := hcome
      have := congrArg (List.map Nd.e) hr
      rw [List.map_append, List.map_map] at this
      have h9 : (come.map fun x => x.1.e) ++ r.map Nd.e = post.map Nd.e := this
      rw [← h9]
      exact (tkn_some (by rw [List.length_map]; exact hnb)).symm
    clear hcome hnb
    gi_wp2
    refine ⟨by simp, .inl ⟨_, _, rfl, run_takeDeferred hDd, ?_⟩⟩
    have hgp := grownBy_putObj' W' D (.deferred none)
    refine ⟨_, results_none rfl _ _ _, ⟨_, rfl⟩, T, true, ?_, ?_, fun b hb => hzW b (by simpa using hb)⟩
    · rw [← HEQ.out]
      exact hTk.own hgp (fun r e => by cases e; exact ⟨by omega, _, hDd, rfl⟩)
    · exact ⟨hgo.os, hgo.tape, hgo.output, by simpa using hgo.size, fun b hb hu => (World.putObj_heap_other (by omega)).trans (hgo.block b hb hu), hgo.tag, fun b hb h0 => hgo.high b (by simpa using hb) h0⟩
end Sk
end Go.Proofs.Ytcioaoanhmpdkaa
namespace Go.Proofs.Ytcioaoanhmpdkaa
namespace Sk
open Go.RowKit Go.Shelf Laws Irw Erw KMath Skm Byt
set_option linter.unusedVariables false
set_option maxRecDepth 100000
set_option linter.unusedSimpArgs false

set_option maxHeartbeats 1000000 in
theorem taken_some (nn : Int) (hnn : nn ≠ 0) (Bl Bk Bs L : Nat) (k : ByteArray) (s : Int) (ns pre post : List Nd) (w : World) (hw : Wk w L k s ns pre post)
    (hBl : w.cell? ⟨Bl, 0, none⟩ = some (.pointer (some ⟨L, 0, none⟩))) (hBk : w.cell? ⟨Bk, 0, none⟩ = some (.string k)) (hBs : w.cell? ⟨Bs, 0, none⟩ = some (.int .u64 s)) (hlen : ns.length ≤ 2932031007402) :
    Calls Try.prog 26 #[.func (.func 88) #[] #[.pointer (some ⟨Bl, 0, none⟩), .pointer (some ⟨Bk, 0, none⟩), .pointer (some ⟨Bs, 0, none⟩)], .int .i64 nn] w fun e w' => ∃ a c, e = .returned (.tuple #[.slice a (tkn nn (post.map Nd.e)).length c, .bool true]) ∧ IsE w' a (tkn nn (post.map Nd.e)) ∧ (a = none → c = 0) ∧ Below w.heap.size w w' := by
  have HW : Hid (Wk w L k s ns pre post) := hw
  have hmf : ∀ (fn : Fn) (first cap : Array Value) (w : World), (Instr.makeFunc fn first cap).run Try.prog w = .ok (.func fn first cap) w := fun _ _ _ _ => rfl
  have hfn : ∀ (x y z : Nat) (w : World), (binOp .eql 58 (.func (.func 88) #[] #[.pointer (some ⟨x, 0, none⟩), .pointer (some ⟨y, 0, none⟩), .pointer (some ⟨z, 0, none⟩)]) .nilFunc).run Try.prog w = .ok (.bool false) w := fun x y z w => fun_nil _ _ _
  have HNN : Hid (nn ≠ 0) := hnn
  have hn0 : (nn == 0) = false := by simpa using hnn
  clear hw hnn
  go_enter Try.func26, Try.ntmps26
  go_wp2_with fail
  generalize ho1 : (Obj.cells #[.int .i64 nn] 3) = o1
  generalize ho2 : (Obj.cells #[.slice none 0 0] 80) = o2
  generalize ho3 : (Obj.cells #[.bool true] 4) = o3
  generalize ho4 : (Obj.cells #[.bool false] 4) = o4
  have g1 : ((((w.alloc o1).alloc o2).alloc o3).alloc o4).heap[w.heap.size]? = some o1 := by
    rw [Below.heap_alloc _ _ _ (by simp <;> omega), Below.heap_alloc _ _ _ (by simp <;> omega), Below.heap_alloc _ _ _ (by simp <;> omega)]
    exact World.alloc_heap_new w o1
  have g2 : ((((w.alloc o1).alloc o2).alloc o3).alloc o4).heap[w.heap.size + 1]? = some o2 := by
    rw [Below.heap_alloc _ _ _ (by simp <;> omega), Below.heap_alloc _ _ _ (by simp <;> omega)]
    have := World.alloc_heap_new (w.alloc o1) o2
    rwa [World.size_alloc] at this
  have g3 : ((((w.alloc o1).alloc o2).alloc o3).alloc o4).heap[w.heap.size + 2]? = some o3 := by
    rw [Below.heap_alloc _ _ _ (by simp <;> omega)]
    have := World.alloc_heap_new ((w.alloc o1).alloc o2) o3
    rwa [World.size_alloc, World.size_alloc] at this
  have g4 : ((((w.alloc o1).alloc o2).alloc o3).alloc o4).heap[w.heap.size + 3]? = some o4 := by
    have := World.alloc_heap_new (((w.alloc o1).alloc o2).alloc o3) o4
    rwa [World.size_alloc, World.size_alloc, World.size_alloc] at this
  have hb4 : Below w.heap.size w ((((w.alloc o1).alloc o2).alloc o3).alloc o4) := ((((Below.refl _ _).alloc (Nat.le_refl _) _).alloc (by simp) _).alloc (by simp; omega) _).alloc (by simp; omega) _
  have hs4 : ((((w.alloc o1).alloc o2).alloc o3).alloc o4).heap.size = w.heap.size + 4 := by simp
  generalize (((w.alloc o1).alloc o2).alloc o3).alloc o4 = W4 at *
  subst ho1 ho2 ho3 ho4
  have hnl : ∀ nd ∈ ns, nd.b < w.heap.size := fun nd hnd => HW.out.chain.lt hnd
  have hTk : Tk (tkT L ns w.heap.size) W4 w.heap.size nn false [] := by
    refine ⟨fun b h1 h2 => ⟨tkT_box h1 h2, by omega⟩, by rw [cell_of_obj g1]; rfl, ⟨.slice none 0 0, by rw [cell_of_obj g2]; rfl, OwnE.empty _ _ _⟩, by rw [cell_of_obj g3]; rfl, by rw [cell_of_obj g4]; rfl, fun b h1 h2 => ?_⟩
    rcases (show b = w.heap.size ∨ b = w.heap.size + 1 ∨ b = w.heap.size + 2 ∨ b = w.heap.size + 3 by omega) with rfl | rfl | rfl | rfl
    · exact froz_of_obj g1
    · exact froz_of_obj g2
    · exact froz_of_obj g3
    · exact froz_of_obj g4
  refine (callsIn_wide.1 (some_in 1 (by unfold uT; omega) (tkT L ns w.heap.size) Bl Bk Bs L w.heap.size k s ns pre post W4 (HW.out.under hb4) (fun nd hnd => tkT_node (hnl nd hnd) (.inr ⟨nd, hnd, rfl⟩)) (tkT_node HW.out.lt (.inl rfl)) (fun b hb => tkT_hi (by omega) HW.out.lt hnl) (by omega) ((hb4.cell (p := ⟨Bl, 0, none⟩) (World.block_lt_of_cell? w _ hBl)).trans hBl) ((hb4.cell (p := ⟨Bk, 0, none⟩) (World.block_lt_of_cell? w _ hBk)).trans hBk) ((hb4.cell (p := ⟨Bs, 0, none⟩) (World.block_lt_of_cell? w _ hBs)).trans hBs) nn HNN.out hTk hlen)).mono ?_
  rintro e w5 ⟨⟨v, rfl⟩, T5, en5, h5, hg5, hz5⟩
  have hbl : Below w.heap.size w w5 := hb4.trans ⟨hg5.os, hg5.tape, hg5.output, hg5.size, fun b hb => hg5.block b (by omega) (tkT_lo hb)⟩
  obtain ⟨v5, k1, ho5⟩ := h5.out
  obtain ⟨a5, c5, rfl, hi5, _, hn5⟩ := ho5.form
  have k2 := h5.well
  have HF : Hid (IsE w5 a5 (tkn nn (post.map Nd.e)) ∧ (a5 = none → c5 = 0) ∧ Below w.heap.size w w5) := ⟨hi5, hn5, hbl⟩
  clear hbl ho5 hi5 hn5 h5 hg5 hz5 hTk g1 g2 g3 g4
  go_wp2
  go_quiet (fail)
  go_wp2
  go_ret2
  exact ⟨a5, c5, rfl, HF.out.1.below (below_drewN (Below.refl _ _) _), HF.out.2.1, below_drewN HF.out.2.2 _⟩

set_option maxHeartbeats 1000000 in
theorem taken_none (x y z : Nat) (w : World) :
    Calls Try.prog 26 #[.func (.func 88) #[] #[.pointer (some ⟨x, 0, none⟩), .pointer (some ⟨y, 0, none⟩), .pointer (some ⟨z, 0, none⟩)], .int .i64 0] w fun e w' => e = .returned (.tuple #[.slice none 0 0, .bool true]) ∧ Below w.heap.size w w' := by
  have hfn : ∀ (w : World), (binOp .eql 58 (.func (.func 88) #[] #[.pointer (some ⟨x, 0, none⟩), .pointer (some ⟨y, 0, none⟩), .pointer (some ⟨z, 0, none⟩)]) .nilFunc).run Try.prog w = .ok (.bool false) w := fun w => fun_nil _ _ _
  have HB : Hid (Below w.heap.size w ((w.alloc (.cells #[.int .i64 0] 3)).alloc (.cells #[.slice none 0 0] 80))) := ((Below.refl _ _).alloc (Nat.le_refl _) _).alloc (by simp) _
  go_enter Try.func26, Try.ntmps26
  go_wp2
  go_ret2
  exact ⟨rfl, HB.out⟩
theorem taken_any (nn : Int) (Bl Bk Bs L : Nat) (k : ByteArray) (s : Int) (ns pre post : List Nd) (w : World) (hw : Wk w L k s ns pre post)
    (hBl : w.cell? ⟨Bl, 0, none⟩ = some (.pointer (some ⟨L, 0, none⟩))) (hBk : w.cell? ⟨Bk, 0, none⟩ = some (.string k)) (hBs : w.cell? ⟨Bs, 0, none⟩ = some (.int .u64 s)) (hlen : ns.length ≤ 2932031007402) :
    Calls Try.prog 26 #[.func (.func 88) #[] #[.pointer (some ⟨Bl, 0, none⟩), .pointer (some ⟨Bk, 0, none⟩), .pointer (some ⟨Bs, 0, none⟩)], .int .i64 nn] w fun e w' => ∃ a c, e = .returned (.tuple #[.slice a (tkn nn (post.map Nd.e)).length c, .bool true]) ∧ IsE w' a (tkn nn (post.map Nd.e)) ∧ (a = none → c = 0) ∧ Below w.heap.size w w' := by
  by_cases h0 : nn = 0
  · subst h0
    refine (taken_none Bl Bk Bs w).mono ?_
    rintro e w' ⟨rfl, hb⟩
    have e0 : tkn 0 (post.map Nd.e) = [] := by unfold tkn; rw [if_neg (by omega)]; rfl
    rw [e0]
    exact ⟨none, 0, rfl, IsE.nil _ _, fun _ => rfl, hb⟩
  · exact taken_some nn h0 Bl Bk Bs L k s ns pre post w hw hBl hBk hBs hlen
end Sk
end Go.Proofs.Ytcioaoanhmpdkaa
