import Derived.Test.YtkofopaejkabhaaEa2
import Derived.Test.YtkofopaejkabhaaTk5
namespace Go.Proofs.Ytkofopaejkabhaa
namespace Sk
open Go.RowKit Go.Shelf Laws Irw Erw KMath Skm Byt
set_option linter.unusedVariables false
set_option maxRecDepth 100000
set_option linter.unusedSimpArgs false
attribute [local go_sem] Oper.semAt_some

/-- one entry more: what was told last, and what was handed on -/
def stp (s : Int) (st : ByteArray × List En) (e : En) : ByteArray × List En := if s < e.2.1 ∨ e.1 = st.1 then st else (e.1, st.2 ++ [e])
def stt (s : Int) (es : List En) : ByteArray × List En := es.foldl (stp s) (⟨#[]⟩, [])
theorem stt_snoc (s : Int) (es : List En) (e : En) : stt s (es ++ [e]) = stp s (stt s es) e := by simp [stt]
theorem stp_pre (s : Int) (st : ByteArray × List En) (e : En) : st.2 <+: (stp s st e).2 := by
  unfold stp
  split
  · exact List.prefix_refl _
  · exact List.prefix_append _ _
theorem stt_pre {s : Int} {es fs : List En} (h : es <+: fs) : (stt s es).2 <+: (stt s fs).2 := by
  obtain ⟨r, rfl⟩ := h
  induction r generalizing es with
  | nil => simp
  | cons e r ih =>
    have := ih (es := es ++ [e])
    rw [List.append_assoc] at this
    refine List.IsPrefix.trans ?_ this
    rw [stt_snoc]
    exact stp_pre _ _ _
theorem stt_len (s : Int) (es : List En) : (stt s es).2.length ≤ es.length := by
  have : ∀ st : ByteArray × List En, (es.foldl (stp s) st).2.length ≤ st.2.length + es.length := by
    induction es with
    | nil => intro st; simp
    | cons e r ih =>
      intro st
      have h1 := ih (stp s st e)
      have h2 : (stp s st e).2.length ≤ st.2.length + 1 := by
        unfold stp
        split
        · omega
        · simp
      simp only [List.foldl_cons, List.length_cons]
      omega
  have := this (⟨#[]⟩, [])
  simpa [stt] using this
def u9 (x : Nat) : Prop := uT x ∨ x = 9
theorem Tk.other {T : Nat → Nat} {w w' : World} {N d : Nat} {nn : Int} {ended : Bool} {l : List En} (h : Tk T w N nn ended l) (hs : w'.heap.size = w.heap.size) (hb : ∀ b, b ≠ d → w'.heap[b]? = w.heap[b]?) (hd : T d = 9) : Tk T w' N nn ended l := by
  have hl : ∀ b, N ≤ b → b < N + 4 → w'.heap[b]? = w.heap[b]? := fun b h1 h2 => hb b (by rintro rfl; have := (h.tags b h1 h2).1; omega)
  obtain ⟨v, h1, h2⟩ := h.out
  exact ⟨fun b h1 h2 => ⟨(h.tags b h1 h2).1, by have := (h.tags b h1 h2).2; omega⟩, (World.cell?_of_block (a := ⟨N, 0, none⟩) (hl (N) (by omega) (by omega))).trans h.num, ⟨v, (World.cell?_of_block (a := ⟨N + 1, 0, none⟩) (hl (N + 1) (by omega) (by omega))).trans h1, OwnE.same h2 fun g hv => hb g (by rintro rfl; have := h2.2 _ hv; omega)⟩, (World.cell?_of_block (a := ⟨N + 2, 0, none⟩) (hl (N + 2) (by omega) (by omega))).trans h.well, (World.cell?_of_block (a := ⟨N + 3, 0, none⟩) (hl (N + 3) (by omega) (by omega))).trans h.end_, fun b h1 h2 => (World.frozen?_of_block (a := ⟨b, 0, none⟩) (hl b h1 h2)).trans (h.fro b h1 h2)⟩
/-- where the loop of the memtable's iterator stands -/
structure Mi (s nn : Int) (N d : Nat) (T5 : Nat → Nat) (W5 : World) (en : Bool) (es : List En) (T : Nat → Nat) (W : World) : Prop where
  tk : Tk T W N nn en (stt s es).2
  go : Goes u9 T5 W5 T W
  zero : ∀ b, W.heap.size ≤ b → T b = 0
  tag : T d = 9
  cell : W.cell? ⟨d, 0, none⟩ = some (.string (stt s es).1)
  fro : W.frozen? ⟨d, 0, none⟩ = false
theorem Mi.lasts {s nn : Int} {N d : Nat} {T5 : Nat → Nat} {W5 : World} {en : Bool} (hN : N + 4 ≤ W5.heap.size) (hd : d < W5.heap.size) : Lasts W5.heap.size (Mi s nn N d T5 W5 en) := by
  rintro es T A C row h hg hr
  have hs := h.go.size
  have hk : ∀ b, b < W5.heap.size → C.heap[b]? = A.heap[b]? := fun b hb => hg.block b (by omega) (fun e => by have := (hr b e.symm).1; omega)
  exact ⟨h.tk.own hg (fun r e => ⟨by have := (hr r e).1; omega, (hr r e).2⟩), ⟨hg.os.trans h.go.os, hg.tape.trans h.go.tape, hg.output.trans h.go.output, Nat.le_trans h.go.size hg.size, fun b hb hu => (hk b hb).trans (h.go.block b hb hu), h.go.tag, fun b hb h0 => h.go.high b (Nat.le_trans hg.size hb) h0⟩, fun b hb => h.zero b (Nat.le_trans hg.size hb), h.tag, (World.cell?_of_block (a := ⟨d, 0, none⟩) (hk d hd)).trans h.cell, (World.frozen?_of_block (a := ⟨d, 0, none⟩) (hk d hd)).trans h.fro⟩
/-- and where it has been left -/
structure Mx (s nn : Int) (N : Nat) (T5 : Nat → Nat) (W5 : World) (es : List En) (T : Nat → Nat) (W : World) : Prop where
  tk : Tk T W N nn true (stt s es).2
  go : Goes u9 T5 W5 T W
  zero : ∀ b, W.heap.size ≤ b → T b = 0
theorem Mx.lasts {s nn : Int} {N : Nat} {T5 : Nat → Nat} {W5 : World} (hN : N + 4 ≤ W5.heap.size) : Lasts W5.heap.size (Mx s nn N T5 W5) := by
  rintro es T A C row h hg hr
  have hs := h.go.size
  have hk : ∀ b, b < W5.heap.size → C.heap[b]? = A.heap[b]? := fun b hb => hg.block b (by omega) (fun e => by have := (hr b e.symm).1; omega)
  exact ⟨h.tk.own hg (fun r e => ⟨by have := (hr r e).1; omega, (hr r e).2⟩), ⟨hg.os.trans h.go.os, hg.tape.trans h.go.tape, hg.output.trans h.go.output, Nat.le_trans h.go.size hg.size, fun b hb hu => (hk b hb).trans (h.go.block b hb hu), h.go.tag, fun b hb h0 => h.go.high b (Nat.le_trans hg.size hb) h0⟩, fun b hb => h.zero b (Nat.le_trans hg.size hb)⟩
/-- a region of which all orders leave the same -/
def regPost (A : Act) (W : World) : Exit → Act → World → Prop
  | .normal, a', w' => a' = A ∧ w' = W
  | _, _, _ => False
def MfAns (T0 : Nat → Nat) (W : World) (N : Nat) (nn : Int) (l : List En) (W' : World) : Prop := ∃ T' en, Tk T' W' N nn en l ∧ Goes u9 T0 W T' W' ∧ ∀ b, W'.heap.size ≤ b → T' b = 0
abbrev cl1 (N : Nat) : Value := .func (.func 72) #[] #[.pointer (some ⟨N + 3, 0, none⟩), .pointer (some ⟨N + 2, 0, none⟩), .pointer (some ⟨N + 1, 0, none⟩), .pointer (some ⟨N, 0, none⟩)]
set_option maxHeartbeats 2000000 in
/-- the memtable's iterator, gone through by taken, at most nn -/
theorem mfrom_in (t : Nat) (ht : ¬ u9 t) (T0 : Nat → Nat) (Bt Bk Bs M L N : Nat) (k : ByteArray) (s : Int) (ns pre post : List Nd) (W : World) (hw : Wk W L k s ns pre post)
    (htg : ∀ nd ∈ ns, T0 nd.b = t) (htL : T0 L = t) (hz0 : ∀ b, W.heap.size ≤ b → T0 b = 0) (hN : N + 4 ≤ W.heap.size)
    (hBt : W.cell? ⟨Bt, 0, none⟩ = some (.pointer (some ⟨M, 0, none⟩))) (hM : W.cell? ⟨M, 0, none⟩ = some (.pointer (some ⟨L, 0, none⟩))) (hBk : W.cell? ⟨Bk, 0, none⟩ = some (.string k)) (hBs : W.cell? ⟨Bs, 0, none⟩ = some (.int .u64 s)) (hBsT : T0 Bs = 0)
    (nn : Int) (hnn : nn ≠ 0) (htk : Tk T0 W N nn false []) (hlen : ns.length ≤ 1000000000) :
    CallsIn Fence.wide 7 Try.prog 73 #[cl1 N, .pointer (some ⟨Bt, 0, none⟩), .pointer (some ⟨Bk, 0, none⟩), .pointer (some ⟨Bs, 0, none⟩)] W fun e W' => (∃ v, e = .returned v) ∧ MfAns T0 W N nn (tkn nn (stt s (post.map Nd.e)).2) W' := by
  have HW : Hid (Wk W L k s ns pre post) := hw
  have HTK : Hid (Tk T0 W N nn false []) := htk
  have HTG : Hid ((∀ nd ∈ ns, T0 nd.b = t) ∧ T0 L = t ∧ ∀ b, W.heap.size ≤ b → T0 b = 0) := ⟨htg, htL, hz0⟩
  have HUT : Hid (¬ u9 t ∧ ¬ u9 0) := ⟨ht, by unfold u9 uT; omega⟩
  clear hw htk htg htL hz0 ht
  refine callsIn_of_wp_marks Try.func73 rfl trivial ?_ rfl
  simp only [Try.ntmps73, List.size_toArray, List.length_cons, List.length_nil, Nat.reduceAdd, Nat.reduceSub, Array.replicate_succ, Array.replicate_zero, List.push_toArray, List.append_toArray, List.nil_append, List.cons_append]
  have hfF : Fence.wide.fn 74 := trivial
  have g1 : ((W.alloc (.cells #[cl1 N] 92)).alloc (.cells #[.string ⟨#[]⟩] 9)).heap[W.heap.size]? = some (.cells #[cl1 N] 92) := (Below.heap_alloc _ _ _ (by simp)).trans (World.alloc_heap_new _ _)
  have g2 : ((W.alloc (.cells #[cl1 N] 92)).alloc (.cells #[.string ⟨#[]⟩] 9)).heap[W.heap.size + 1]? = some (.cells #[.string ⟨#[]⟩] 9) := by
    have := World.alloc_heap_new (W.alloc (.cells #[cl1 N] 92)) (.cells #[.string ⟨#[]⟩] 9)
    rwa [World.size_alloc] at this
  have hb2 : Below W.heap.size W ((W.alloc (.cells #[cl1 N] 92)).alloc (.cells #[.string ⟨#[]⟩] 9)) := ((Below.refl _ _).alloc (Nat.le_refl _) _).alloc (by simp) _
  have hs2 : ((W.alloc (.cells #[cl1 N] 92)).alloc (.cells #[.string ⟨#[]⟩] 9)).heap.size = W.heap.size + 2 := by simp
  gi_wp2
  generalize hW2 : (W.alloc (.cells #[cl1 N] 92)).alloc (.cells #[.string ⟨#[]⟩] 9) = W2 at *
  have q1 := (hb2.cell (p := ⟨Bt, 0, none⟩) (World.block_lt_of_cell? W _ hBt)).trans hBt
  have q2 := (hb2.cell (p := ⟨M, 0, none⟩) (World.block_lt_of_cell? W _ hM)).trans hM
  have q3 := (hb2.cell (p := ⟨Bk, 0, none⟩) (World.block_lt_of_cell? W _ hBk)).trans hBk
  have q4 := (hb2.cell (p := ⟨Bs, 0, none⟩) (World.block_lt_of_cell? W _ hBs)).trans hBs
  have HBS : Hid (Bs < W.heap.size ∧ W.cell? ⟨Bs, 0, none⟩ = some (.int .u64 s)) := ⟨World.block_lt_of_cell? W _ hBs, hBs⟩
  clear hBt hM hBk hBs
  refine wpIn_mono (Q := regPost { tmps := #[cl1 N, .pointer (some ⟨Bt, 0, none⟩), .pointer (some ⟨Bk, 0, none⟩), .pointer (some ⟨Bs, 0, none⟩), .pointer (some ⟨W.heap.size, 0, none⟩), .pointer (some ⟨W.heap.size + 1, 0, none⟩), undef, .pointer (some ⟨M, 0, none⟩), .pointer (some ⟨M, 0, none⟩), .pointer (some ⟨M, 0, none⟩), .pointer (some ⟨L, 0, none⟩), .string k, .int .u64 s, .func (.func 88) #[] #[.pointer (some ⟨W.heap.size + 2, 0, none⟩), .pointer (some ⟨W.heap.size + 2 + 1, 0, none⟩), .pointer (some ⟨W.heap.size + 2 + 2, 0, none⟩)], undef, undef, undef, undef, undef, undef, undef, undef, undef, undef, undef, undef, undef, undef, undef, undef, undef], defers := [] } (((W2.drew.alloc (.cells #[.pointer (some ⟨L, 0, none⟩)] 99)).alloc (.cells #[.string k] 9)).alloc (.cells #[.int .u64 s] 51))) ?reg ?rest
  case reg =>
    gi_region_with (gi_at_call 74; refine (callsIn_wide.2 (from_any L k s _)).mono ?_; rintro e w' ⟨rfl, rfl⟩)
    all_goals exact ⟨rfl, rfl⟩
  case rest =>
    rintro ex a' w' h9
    cases ex with
    | normal =>
      obtain ⟨rfl, rfl⟩ := h9
      have hb5 : Below W2.heap.size W2 (((W2.drew.alloc (.cells #[.pointer (some ⟨L, 0, none⟩)] 99)).alloc (.cells #[.string k] 9)).alloc (.cells #[.int .u64 s] 51)) := ((((Below.refl _ _).drew).alloc (Nat.le_refl _) _).alloc (by simp) _).alloc (by simp; omega) _
      have k1 : (((W2.drew.alloc (.cells #[.pointer (some ⟨L, 0, none⟩)] 99)).alloc (.cells #[.string k] 9)).alloc (.cells #[.int .u64 s] 51)).cell? ⟨W.heap.size + 2, 0, none⟩ = some (.pointer (some ⟨L, 0, none⟩)) := by
        rw [World.cell?_of_block (Below.heap_alloc _ _ _ (by simp <;> omega)), World.cell?_of_block (Below.heap_alloc _ _ _ (by simp <;> omega)), World.cell?_alloc_at _ _ _ _ (by simp; omega)]; rfl
      have k2 : (((W2.drew.alloc (.cells #[.pointer (some ⟨L, 0, none⟩)] 99)).alloc (.cells #[.string k] 9)).alloc (.cells #[.int .u64 s] 51)).cell? ⟨W.heap.size + 2 + 1, 0, none⟩ = some (.string k) := by
        rw [World.cell?_of_block (Below.heap_alloc _ _ _ (by simp <;> omega)), World.cell?_alloc_at _ _ _ _ (by simp; omega)]; rfl
      have k3 : (((W2.drew.alloc (.cells #[.pointer (some ⟨L, 0, none⟩)] 99)).alloc (.cells #[.string k] 9)).alloc (.cells #[.int .u64 s] 51)).cell? ⟨W.heap.size + 2 + 2, 0, none⟩ = some (.int .u64 s) := by
        rw [World.cell?_alloc_at _ _ _ _ (by simp; omega)]; rfl
      have hs5 : (((W2.drew.alloc (.cells #[.pointer (some ⟨L, 0, none⟩)] 99)).alloc (.cells #[.string k] 9)).alloc (.cells #[.int .u64 s] 51)).heap.size = W.heap.size + 5 := by simp; omega
      generalize ((W2.drew.alloc (.cells #[.pointer (some ⟨L, 0, none⟩)] 99)).alloc (.cells #[.string k] 9)).alloc (.cells #[.int .u64 s] 51) = W5 at *
      have HB5 : Hid (Below W.heap.size W W5) := hb2.trans (hb5.mono hb2.size)
      have o1 := (hb5.block (W.heap.size) (by omega)).trans g1
      have o2 := (hb5.block (W.heap.size + 1) (by omega)).trans g2
      have hG5 : Goes u9 T0 W (upd T0 (W.heap.size + 1) 9) W5 := ⟨HB5.out.os, HB5.out.tape, HB5.out.output, HB5.out.size, fun b hb _ => HB5.out.block b hb, fun b hb _ => upd_other _ _ (by omega), fun b hb h0 => by rw [upd_other _ _ (by omega)]; exact h0⟩
      have hz5 : ∀ b, W5.heap.size ≤ b → upd T0 (W.heap.size + 1) 9 b = 0 := fun b hb => by rw [upd_other _ _ (by omega)]; exact HTG.out.2.2 b (by omega)
      have hnl : ∀ nd ∈ ns, nd.b < W.heap.size := fun nd hnd => HW.out.chain.lt hnd
      have hM0 : Mi s nn N (W.heap.size + 1) (upd T0 (W.heap.size + 1) 9) W5 false [] (upd T0 (W.heap.size + 1) 9) W5 := ⟨by
        have h1 := HTK.out.below HB5.out
        have h2 : stt s [] = (⟨#[]⟩, []) := rfl
        rw [h2]
        obtain ⟨v, q5, q6⟩ := h1.out
        exact ⟨fun b p1 p2 => ⟨by rw [upd_other _ _ (by omega)]; exact (h1.tags b p1 p2).1, (h1.tags b p1 p2).2⟩, h1.num, ⟨v, q5, q6.1, fun g hv => by
          have q7 := q6.2 g hv
          rw [upd_other _ _ (by
            rintro rfl
            have := HTG.out.2.2 (W.heap.size + 1) (by omega)
            omega)]
          exact q7⟩, h1.well, h1.end_, h1.fro⟩, Goes.refl _ _ _, hz5, upd_same _ _ _, by rw [cell_of_obj o2]; rfl, froz_of_obj o2⟩
      have HM0 : Hid _ := hM0
      have HNL : Hid (∀ nd ∈ ns, nd.b < W.heap.size) := hnl
      have HO1 : Hid (W5.heap[W.heap.size]? = some (.cells #[cl1 N] 92)) := o1
      have HG5 : Hid (Goes u9 T0 W (upd T0 (W.heap.size + 1) 9) W5) := hG5
      have hBsL := HBS.out.1
      have HB5c : Hid (W5.cell? ⟨Bs, 0, none⟩ = some (.int .u64 s) ∧ upd T0 (W.heap.size + 1) 9 Bs = 0) := ⟨(HB5.out.cell (p := ⟨Bs, 0, none⟩) hBsL).trans HBS.out.2, by rw [upd_other _ _ (by omega)]; exact hBsT⟩
      clear hM0 o1 o2 hG5 hb5 hb2 g1 g2 q1 q2 q3 q4
      gi_wp2
      refine range_each rfl (by decide) (gf := 88) (lb := #[.pointer (some ⟨W.heap.size + 2, 0, none⟩), .pointer (some ⟨W.heap.size + 2 + 1, 0, none⟩), .pointer (some ⟨W.heap.size + 2 + 2, 0, none⟩)]) rfl trivial (enters_of Try.func88 (by kernel_rfl) rfl)
        u9 HUT.out.2 (upd T0 (W.heap.size + 1) 9) hz5
        (from_each u9 HUT.out.2 t HUT.out.1 (upd T0 (W.heap.size + 1) 9) (W.heap.size + 2) (W.heap.size + 2 + 1) (W.heap.size + 2 + 2) L k s ns pre post W5 (HW.out.under HB5.out) (fun nd hnd => by rw [upd_other _ _ (by have := hnl nd hnd; omega)]; exact HTG.out.1 nd hnd) (by rw [upd_other _ _ (by have := HW.out.lt; omega)]; exact HTG.out.2.1) hz5 k1 k2 k3) (fun _ => rfl)
        (fun es T Wc => (nn < 0 ∨ ((stt s es).2.length : Int) < nn) ∧ Mi s nn N (W.heap.size + 1) (upd T0 (W.heap.size + 1) 9) W5 false es T Wc)
        (fun c es T Wc => c = .ret ∧ ((stt s es).2.length : Int) = nn ∧ Mx s nn N (upd T0 (W.heap.size + 1) 9) W5 es T Wc)
        (fun es T A C row h hg hr => ⟨h.1, Mi.lasts (by omega) (by omega) es T A C row h.2 hg hr⟩) (fun c es T A C row h hg hr => ⟨h.1, h.2.1, Mx.lasts (by omega) es T A C row h.2.2 hg hr⟩) ⟨by simp [stt]; omega, HM0.out⟩
        (fun e a' Wc W' => W' = Wc.alloc (.cells #[.string e.1, .int .u64 e.2.1, .bool e.2.2.1, .string e.2.2.2] 77) ∧ a' = { tmps := #[cl1 N, .pointer (some ⟨Bt, 0, none⟩), .pointer (some ⟨Bk, 0, none⟩), .pointer (some ⟨Bs, 0, none⟩), .pointer (some ⟨W.heap.size, 0, none⟩), .pointer (some ⟨W.heap.size + 1, 0, none⟩), .pointer (some ⟨Wc.heap.size, 0, none⟩), .pointer (some ⟨M, 0, none⟩), .pointer (some ⟨M, 0, none⟩), .pointer (some ⟨M, 0, none⟩), .pointer (some ⟨L, 0, none⟩), .string k, .int .u64 s, .func (.func 88) #[] #[.pointer (some ⟨W.heap.size + 2, 0, none⟩), .pointer (some ⟨W.heap.size + 2 + 1, 0, none⟩), .pointer (some ⟨W.heap.size + 2 + 2, 0, none⟩)], .agg #[.string e.1, .int .u64 e.2.1, .bool e.2.2.1, .string e.2.2.2], undef, undef, undef, undef, undef, undef, undef, undef, undef, undef, undef, undef, undef, undef, undef, undef], defers := [] })
        (fun e a' Wc W' h => by rw [h.1]; exact (Below.refl _ _).alloc (Nat.le_refl _) _) ?assign ?body ?done ?stop
      case assign =>
        rintro l ⟨ek, es_, ed, ev⟩ es T Wc K hi hK
        simp only [encE4]
        gi_wp2
        try exact hK _ _ ⟨rfl, rfl⟩
      case body =>
        rintro l ⟨ek, es_, ed, ev⟩ es T a' Wc W' Wb hl1 hl2 ⟨o, ho, hoc⟩ ⟨hnb, hmc⟩ ⟨_, hmi⟩ hz hN9 ⟨rfl, rfl⟩ hg
        dsimp only at *
        have e0 : Wb.heap[Wc.heap.size]? = some (.cells #[.string ek, .int .u64 es_, .bool ed, .string ev] 77) := (hg.block _ (by simp) (fun e => by cases e; omega)).trans (World.alloc_heap_new _ _)
        have hcl : Wc.heap.size < Wb.heap.size := (Array.getElem?_eq_some_iff.1 e0).1
        have c0 : Wb.cell? ⟨Wc.heap.size, 0, none⟩ = some (.string ek) := by rw [cell_of_obj e0]; rfl
        have c1 : Wb.cell? ⟨Wc.heap.size, 1, none⟩ = some (.int .u64 es_) := by rw [cell_of_obj e0]; rfl
        have c2 : Wb.cell? ⟨Wc.heap.size, 2, none⟩ = some (.bool ed) := by rw [cell_of_obj e0]; rfl
        have c3 : Wb.cell? ⟨Wc.heap.size, 3, none⟩ = some (.string ev) := by rw [cell_of_obj e0]; rfl
        have hT0 : upd T0 (W.heap.size + 1) 9 W.heap.size = 0 := by rw [upd_other _ _ (by omega)]; exact HTG.out.2.2 _ (Nat.le_refl _)
        have y0 : Wb.cell? ⟨W.heap.size, 0, none⟩ = some (cl1 N) := by
          rw [cell_of_obj ((hmi.go.block W.heap.size (by omega) (by rw [hT0]; exact HUT.out.2)).trans HO1.out)]; rfl
        have b0 : Wb.cell? ⟨Bs, 0, none⟩ = some (.int .u64 s) := (World.cell?_of_block (a := ⟨Bs, 0, none⟩) (hmi.go.block Bs (by omega) (by rw [HB5c.out.2]; exact HUT.out.2))).trans HB5c.out.1
        have t0 := hmi.cell
        have tf := hmi.fro
        have HMI : Hid (Mi s nn N (W.heap.size + 1) (upd T0 (W.heap.size + 1) 9) W5 false es T Wb ∧ (nn < 0 ∨ ((stt s es).2.length : Int) < nn)) := ⟨hmi, hnb⟩
        have HSN : Hid (stt s (es ++ [(ek, es_, ed, ev)]) = stp s (stt s es) (ek, es_, ed, ev)) := stt_snoc _ _ _
        have HZ : Hid (∀ b, Wc.heap.size ≤ b → T b = 0) := hz
        have HE0 : Hid (Wb.heap[Wc.heap.size]? = some (.cells #[.string ek, .int .u64 es_, .bool ed, .string ev] 77)) := e0
        have hlenb : (stt s es).2.length < 2932031007402 := by have := stt_len s es; omega
        have HLB : Hid ((stt s es).2.length < 2932031007402) := hlenb
        clear hmi hmc hnb hz hg e0 ho hoc hT0 hlenb HO1 HB5c
        by_cases h1 : s < es_
        · have HS : Hid (stt s (es ++ [(ek, es_, ed, ev)]) = stt s es) := by show _ = _; rw [HSN.out]; unfold stp; rw [if_pos (.inl h1)]
          gi_wp2
          exact ⟨T, ⟨by rw [HS.out]; exact HMI.out.2, by have := HMI.out.1; exact ⟨by rw [HS.out]; exact this.tk, this.go, this.zero, this.tag, by rw [HS.out]; exact this.cell, this.fro⟩⟩, Goes.refl _ _ _, HMI.out.1.zero, KeepsFrom.refl _ _⟩
        · by_cases h2 : ek = (stt s es).1
          · have HS : Hid (stt s (es ++ [(ek, es_, ed, ev)]) = stt s es) := by show _ = _; rw [HSN.out]; unfold stp; rw [if_pos (.inr h2)]
            have h3 : (ek.toList == (stt s es).1.toList) = true := by rw [h2]; simp
            clear h2
            gi_wp2
            exact ⟨T, ⟨by rw [HS.out]; exact HMI.out.2, by have := HMI.out.1; exact ⟨by rw [HS.out]; exact this.tk, this.go, this.zero, this.tag, by rw [HS.out]; exact this.cell, this.fro⟩⟩, Goes.refl _ _ _, HMI.out.1.zero, KeepsFrom.refl _ _⟩
          · have HS : Hid (stt s (es ++ [(ek, es_, ed, ev)]) = (ek, (stt s es).2 ++ [(ek, es_, ed, ev)])) := by
              show _ = _
              rw [HSN.out]; unfold stp; rw [if_neg (by rintro (h | h); exact h1 h; exact h2 h)]
            have h3 : (ek.toList == (stt s es).1.toList) = false := by
              rw [beq_eq_false_iff_ne, ByteArray.toList_eq, ByteArray.toList_eq]
              intro h
              exact h2 (ByteArray.ext (Array.toList_inj.1 h))
            clear h2
            have hfT : Fence.wide.fn 72 := trivial
            have HCL : Hid (Calls Try.prog 72 #[.agg #[.string ek, .int .u64 es_, .bool ed, .string ev], .pointer (some ⟨N + 3, 0, none⟩), .pointer (some ⟨N + 2, 0, none⟩), .pointer (some ⟨N + 1, 0, none⟩), .pointer (some ⟨N, 0, none⟩)] Wb fun r w' => r = .returned (.bool (!decide (((stt s es).2.length : Int) + 1 = nn))) ∧ ∃ T', Tk T' w' N nn (decide (((stt s es).2.length : Int) + 1 = nn)) ((stt s es).2 ++ [(ek, es_, ed, ev)]) ∧ Goes uT T Wb T' w' ∧ (∀ b, w'.heap.size ≤ b → T' b = 0) ∧ KeepsOthers Wb w') := takenc_any T Wb N nn (stt s es).2 (ek, es_, ed, ev) HMI.out.1.tk HLB.out HMI.out.1.zero
            have HB9 : Hid (Wc.heap.size < Wb.heap.size ∧ W.heap.size + 1 < Wb.heap.size) := ⟨hcl, World.block_lt_of_cell? Wb _ t0⟩
            by_cases hst9 : ((stt s es).2.length : Int) + 1 = nn
            · have e9 : decide (((stt s es).2.length : Int) + 1 = nn) = true := decide_eq_true hst9
              have HNB : Hid (((stt s (es ++ [(ek, es_, ed, ev)])).2.length : Int) = nn) := by show _ = _; rw [HS.out]; simp; omega
              rw [e9] at HCL
              clear e9 hst9
              gi_wp2_with (gi_at_call 72; refine (CallsIn.inRound l (callsIn_wide.2 HCL.out)).mono ?_; rintro r W7 ⟨rfl, hj2⟩; have HJ2 : Hid (∃ T', Tk T' W7 N nn true ((stt s es).2 ++ [(ek, es_, ed, ev)]) ∧ Goes uT T Wb T' W7 ∧ (∀ b, W7.heap.size ≤ b → T' b = 0) ∧ KeepsOthers Wb W7) := hj2; clear hj2)
              obtain ⟨T', p1, p2, p3, p4⟩ := HJ2.out
              exact ⟨T', ⟨rfl, HNB.out, by rw [HS.out]; exact p1, HMI.out.1.go.trans (p2.mono fun x hx => .inl hx), p3⟩, p4.from _⟩
            · have e9 : decide (((stt s es).2.length : Int) + 1 = nn) = false := decide_eq_false hst9
              have HNB : Hid (nn < 0 ∨ ((stt s (es ++ [(ek, es_, ed, ev)])).2.length : Int) < nn) := by have := HMI.out.2; show _ ∨ _; rw [HS.out]; simp; omega
              rw [e9] at HCL
              clear e9 hst9
              gi_wp2_with (gi_at_call 72; refine (CallsIn.inRound l (callsIn_wide.2 HCL.out)).mono ?_; rintro r W7 ⟨rfl, hj2⟩; have HJ2 : Hid (∃ T', Tk T' W7 N nn false ((stt s es).2 ++ [(ek, es_, ed, ev)]) ∧ Goes uT T Wb T' W7 ∧ (∀ b, W7.heap.size ≤ b → T' b = 0) ∧ KeepsOthers Wb W7) := hj2; clear hj2; have hun : ∀ b, b < Wb.heap.size → T b = 0 ∨ T b = 9 → W7.heap[b]? = Wb.heap[b]? := (fun b hb ht => by obtain ⟨T', _, q2, _⟩ := HJ2.out; exact q2.block b hb (by unfold uT; omega)); have d0 : W7.cell? ⟨Wc.heap.size, 0, none⟩ = some (.string ek) := (by rw [cell_of_obj ((hun _ HB9.out.1 (.inl (HZ.out _ (Nat.le_refl _)))).trans HE0.out)]; rfl); have dt := (World.cell?_of_block (a := ⟨W.heap.size + 1, 0, none⟩) (hun _ HB9.out.2 (.inr HMI.out.1.tag))).trans t0; have df := (World.frozen?_of_block (a := ⟨W.heap.size + 1, 0, none⟩) (hun _ HB9.out.2 (.inr HMI.out.1.tag))).trans tf; clear hun)
              obtain ⟨T', p1, p2, p3, p4⟩ := HJ2.out
              have htg9 : T' (W.heap.size + 1) = 9 := (p2.tag _ HB9.out.2 (by rw [HMI.out.1.tag]; unfold uT; omega)).trans HMI.out.1.tag
              have hgs : Goes u9 T' W7 T' (W7.setCell ⟨W.heap.size + 1, 0, none⟩ (.string ek)) := Goes.setCell (.inr htg9)
              have hgo := (p2.mono (t' := u9) fun x hx => .inl hx).trans hgs
              refine ⟨T', ⟨HNB.out, ?_, HMI.out.1.go.trans hgo, fun b hb => p3 b (by simpa using hb), htg9, ?_, ?_⟩, hgo, fun b hb => p3 b (by simpa using hb), (p4.trans (KeepsOthers.setCell _ _ _)).from _⟩
              · rw [HS.out]
                exact p1.other (d := W.heap.size + 1) (by simp) (fun b hb => Below.heap_setCell _ _ _ b hb) htg9
              · rw [HS.out]
                exact World.cell?_setCell_same _ _ _ dt
              · rw [World.frozen?_setCell]; exact df
      case done =>
        rintro D T Wc hD ⟨hnb, hmi⟩ hDd
        have HEQ : Hid ((stt s (post.map Nd.e)).2 = tkn nn (stt s (post.map Nd.e)).2) := (tkn_all hnb).symm
        gi_wp2
        refine ⟨by simp, .inl ⟨_, _, rfl, run_takeDeferred hDd, ?_⟩⟩
        have hgp := grownBy_putObj' Wc D (.deferred none)
        have hm2 := Mi.lasts (by omega) (by omega) _ T Wc _ (some D) hmi hgp (fun r e => by cases e; exact ⟨by omega, _, hDd, rfl⟩)
        refine ⟨_, results_none rfl _ _ _, ⟨_, rfl⟩, T, false, ?_, HG5.out.trans hm2.go, hm2.zero⟩
        rw [← HEQ.out]
        exact hm2.tk
      case stop =>
        rintro D es T Wc hD hpre ⟨_, hnb, hmi⟩ hDd
        have HEQ : Hid ((stt s es).2 = tkn nn (stt s (post.map Nd.e)).2) := by
          show _ = _
          obtain ⟨r, hr⟩ := stt_pre (s := s) hpre
          rw [← hr]
          exact (tkn_some hnb).symm
        gi_wp2
        refine ⟨by simp, .inl ⟨_, _, rfl, run_takeDeferred hDd, ?_⟩⟩
        have hgp := grownBy_putObj' Wc D (.deferred none)
        have hm2 := Mx.lasts (by omega) _ T Wc _ (some D) hmi hgp (fun r e => by cases e; exact ⟨by omega, _, hDd, rfl⟩)
        refine ⟨_, results_none rfl _ _ _, ⟨_, rfl⟩, T, true, ?_, HG5.out.trans hm2.go, hm2.zero⟩
        rw [← HEQ.out]
        exact hm2.tk
    | ret => exact h9.elim
    | exit id => exact h9.elim
    | goto t => exact h9.elim
    | panic ch => exact h9.elim
    | outgrown => exact h9.elim
end Sk
end Go.Proofs.Ytkofopaejkabhaa
