import Derived.Test.YtcioaoanhmpdkaaEa2
import Derived.Test.YtcioaoanhmpdkaaTk5
import Derived.Test.YtcioaoanhmpdkaaMk6
import Derived.Test.YtcioaoanhmpdkaaRt5
namespace Go.Proofs.Ytcioaoanhmpdkaa
namespace Sk
open Go.RowKit Go.Shelf Laws Irw Erw KMath Skm Byt
set_option linter.unusedVariables false
set_option maxRecDepth 100000
set_option linter.unusedSimpArgs false
attribute [local go_sem] Oper.semAt_some

/-- one entry more: what was told last, and what was handed on -/
def stp (s : Int) (st : ByteArray × List En) (e : En) : ByteArray × List En := if s < e.2.1 ∨ e.1 = st.1 then st else (e.1, st.2 ++ [e])
def stt (s : Int) (es : List En) : ByteArray × List En := es.foldl (stp s) (⟨#[]⟩, [])
theorem stt_snoc (s : Int) (es : List En) (e : En) : stt s (es ++ [e]) = stp s (stt s es) e := by simp [stt]
theorem stp_pre (s : Int) (st : ByteArray × List En) (e : En) : st.2 <+: (stp s st e).2 := by
  unfold stp
  split
  · exact List.prefix_refl _
  · exact List.prefix_append _ _
theorem stt_pre {s : Int} {es fs : List En} (h : es <+: fs) : (stt s es).2 <+: (stt s fs).2 := by
  obtain ⟨r, rfl⟩ := h
  induction r generalizing es with
  | nil => simp
  | cons e r ih =>
    have := ih (es := es ++ [e])
    rw [List.append_assoc] at this
    refine List.IsPrefix.trans ?_ this
    rw [stt_snoc]
    exact stp_pre _ _ _
theorem stt_len (s : Int) (es : List En) : (stt s es).2.length ≤ es.length := by
  have : ∀ st : ByteArray × List En, (es.foldl (stp s) st).2.length ≤ st.2.length + es.length := by
    induction es with
    | nil => intro st; simp
    | cons e r ih =>
      intro st
      have h1 := ih (stp s st e)
      have h2 : (stp s st e).2.length ≤ st.2.length + 1 := by
        unfold stp
        split
        · omega
        · simp
      simp only [List.foldl_cons, List.length_cons]
      omega
  have := this (⟨#[]⟩, [])
  simpa [stt] using this
def u9 (x : Nat) : Prop := uT x ∨ x = 9
theorem Tk.other {T : Nat → Nat} {w w' : World} {N d : Nat} {nn : Int} {ended : Bool} {l : List En} (h : Tk T w N nn ended l) (hs : w'.heap.size = w.heap.size) (hb : ∀ b, b ≠ d → w'.heap[b]? = w.heap[b]?) (hd : T d = 9) : Tk T w' N nn ended l := by
  have hl : ∀ b, N ≤ b → b < N + 4 → w'.heap[b]? = w.heap[b]? := fun b h1 h2 => hb b (by rintro rfl; have := (h.tags b h1 h2).1; omega)
  obtain ⟨v, h1, h2⟩ := h.out
  exact ⟨fun b h1 h2 => ⟨(h.tags b h1 h2).1, by have := (h.tags b h1 h2).2; omega⟩, (World.cell?_of_block (a := ⟨N, 0, none⟩) (hl (N) (by omega) (by omega))).trans h.num, ⟨v, (World.cell?_of_block (a := ⟨N + 1, 0, none⟩) (hl (N + 1) (by omega) (by omega))).trans h1, OwnE.same h2 fun g hv => hb g (by rintro rfl; have := h2.2 _ hv; omega)⟩, (World.cell?_of_block (a := ⟨N + 2, 0, none⟩) (hl (N + 2) (by omega) (by omega))).trans h.well, (World.cell?_of_block (a := ⟨N + 3, 0, none⟩) (hl (N + 3) (by omega) (by omega))).trans h.end_, fun b h1 h2 => (World.frozen?_of_block (a := ⟨b, 0, none⟩) (hl b h1 h2)).trans (h.fro b h1 h2)⟩
/-- where the loop of the memtable's iterator stands -/
structure Mi (s nn : Int) (N d : Nat) (T5 : Nat → Nat) (W5 : World) (en : Bool) (es : List En) (T : Nat → Nat) (W : World) : Prop where
  tk : Tk T W N nn en (stt s es).2
  go : Goes u9 T5 W5 T W
  zero : ∀ b, W.heap.size ≤ b → T b = 0
  tag : T d = 9
  cell : W.cell? ⟨d, 0, none⟩ = some (.string (stt s es).1)
  fro : W.frozen? ⟨d, 0, none⟩ = false
theorem Mi.lasts {s nn : Int} {N d : Nat} {T5 : Nat → Nat} {W5 : World} {en : Bool} (hN : N + 4 ≤ W5.heap.size) (hd : d < W5.heap.size) : Lasts W5.heap.size (Mi s nn N d T5 W5 en) := by
  rintro es T A C row h hg hr
  have hs := h.go.size
  have hk : ∀ b, b < W5.heap.size → C.heap[b]? = A.heap[b]? := fun b hb => hg.block b (by omega) (fun e => by have := (hr b e.symm).1; omega)
  exact ⟨h.tk.own hg (fun r e => ⟨by have := (hr r e).1; omega, (hr r e).2⟩), ⟨hg.os.trans h.go.os, hg.tape.trans h.go.tape, hg.output.trans h.go.output, Nat.le_trans h.go.size hg.size, fun b hb hu => (hk b hb).trans (h.go.block b hb hu), h.go.tag, fun b hb h0 => h.go.high b (Nat.le_trans hg.size hb) h0⟩, fun b hb => h.zero b (Nat.le_trans hg.size hb), h.tag, (World.cell?_of_block (a := ⟨d, 0, none⟩) (hk d hd)).trans h.cell, (World.frozen?_of_block (a := ⟨d, 0, none⟩) (hk d hd)).trans h.fro⟩
/-- and where it has been left -/
structure Mx (s nn : Int) (N : Nat) (T5 : Nat → Nat) (W5 : World) (es : List En) (T : Nat → Nat) (W : World) : Prop where
  tk : Tk T W N nn true (stt s es).2
  go : Goes u9 T5 W5 T W
  zero : ∀ b, W.heap.size ≤ b → T b = 0
theorem Mx.lasts {s nn : Int} {N : Nat} {T5 : Nat → Nat} {W5 : World} (hN : N + 4 ≤ W5.heap.size) : Lasts W5.heap.size (Mx s nn N T5 W5) := by
  rintro es T A C row h hg hr
  have hs := h.go.size
  have hk : ∀ b, b < W5.heap.size → C.heap[b]? = A.heap[b]? := fun b hb => hg.block b (by omega) (fun e => by have := (hr b e.symm).1; omega)
  exact ⟨h.tk.own hg (fun r e => ⟨by have := (hr r e).1; omega, (hr r e).2⟩), ⟨hg.os.trans h.go.os, hg.tape.trans h.go.tape, hg.output.trans h.go.output, Nat.le_trans h.go.size hg.size, fun b hb hu => (hk b hb).trans (h.go.block b hb hu), h.go.tag, fun b hb h0 => h.go.high b (Nat.le_trans hg.size hb) h0⟩, fun b hb => h.zero b (Nat.le_trans hg.size hb)⟩
/-- a region of which all orders leave the same -/
def regPost (A : Act) (W : World) : Exit → Act → World → Prop
  | .normal, a', w' => a' = A ∧ w' = W
  | _, _, _ => False
def MfAns (T0 : Nat → Nat) (W : World) (N : Nat) (nn : Int) (l : List En) (W' : World) : Prop := ∃ T' en, Tk T' W' N nn en l ∧ Goes u9 T0 W T' W' ∧ ∀ b, W'.heap.size ≤ b → T' b = 0
abbrev cl1 (N : Nat) : Value := .func (.func 72) #[] #[.pointer (some ⟨N + 3, 0, none⟩), .pointer (some ⟨N + 2, 0, none⟩), .pointer (some ⟨N + 1, 0, none⟩), .pointer (some ⟨N, 0, none⟩)]
set_option maxHeartbeats 2000000 in
/-- the memtable's iterator, gone through by taken, at most nn -/
theorem mfrom_in (t : Nat) (ht : ¬ u9 t) (T0 : Nat → Nat) (Bt Bk Bs M L N : Nat) (k : ByteArray) (s : Int) (ns pre post : List Nd) (W : World) (hw : Wk W L k s ns pre post)
    (htg : ∀ nd ∈ ns, T0 nd.b = t) (htL : T0 L = t) (hz0 : ∀ b, W.heap.size ≤ b → T0 b = 0) (hN : N + 4 ≤ W.heap.size)
    (hBt : W.cell? ⟨Bt, 0, none⟩ = some (.pointer (some ⟨M, 0, none⟩))) (hM : W.cell? ⟨M, 0, none⟩ = some (.pointer (some ⟨L, 0, none⟩))) (hBk : W.cell? ⟨Bk, 0, none⟩ = some (.string k)) (hBs : W.cell? ⟨Bs, 0, none⟩ = some (.int .u64 s)) (hBsT : T0 Bs = 0)
    (nn : Int) (hnn : nn ≠ 0) (htk : Tk T0 W N nn false []) (hlen : ns.length ≤ 1000000000) :
    CallsIn Fence.wide 7 Try.prog 73 #[cl1 N, .pointer (some ⟨Bt, 0, none⟩), .pointer (some ⟨Bk, 0, none⟩), .pointer (some ⟨Bs, 0, none⟩)] W fun e W' => (∃ v, e = .returned v) ∧ MfAns T0 W N nn (tkn nn (stt s (post.map Nd.e)).2) W' := by
  have HW : Hid (Wk W L k s ns pre post) := hw
  have HTK : Hid (Tk T0 W N nn false []) := htk
  have HTG : Hid ((∀ nd ∈ ns, T0 nd.b = t) ∧ T0 L = t ∧ ∀ b, W.heap.size ≤ b → T0 b = 0) := ⟨htg, htL, hz0⟩
  have HUT : Hid (¬ u9 t ∧ ¬ u9 0) := ⟨ht, by unfold u9 uT; omega⟩
  clear hw htk htg htL hz0 ht
  refine callsIn_of_wp_marks Try.func73 rfl trivial ?_ rfl
  simp only [Try.ntmps73, List.size_toArray, List.length_cons, List.length_nil, Nat.reduceAdd, Nat.reduceSub, Array.replicate_succ, Array.replicate_zero, List.push_toArray, List.append_toArray, List.nil_append, List.cons_append]
  have hfF : Fence.wide.fn 74 := trivial
  have g1 : ((W.alloc (.cells #[cl1 N] 92)).alloc (.cells #[.string ⟨#[]⟩] 9)).heap[W.heap.size]? = some (.cells #[cl1 N] 92) := (Below.heap_alloc _ _ _ (by simp)).trans (World.alloc_heap_new _ _)
  have g2 : ((W.alloc (.cells #[cl1 N] 92)).alloc (.cells #[.string ⟨#[]⟩] 9)).heap[W.heap.size + 1]? = some (.cells #[.string ⟨#[]⟩] 9) := by
    have := World.alloc_heap_new (W.alloc (.cells #[cl1 N] 92)) (.cells #[.string ⟨#[]⟩] 9)
    rwa [World.size_alloc] at this
  have hb2 : Below W.heap.size W ((W.alloc (.cells #[cl1 N] 92)).alloc (.cells #[.string ⟨#[]⟩] 9)) := ((Below.refl _ _).alloc (Nat.le_refl _) _).alloc (by simp) _
  have hs2 : ((W.alloc (.cells #[cl1 N] 92)).alloc (.cells #[.string ⟨#[]⟩] 9)).heap.size = W.heap.size + 2 := by simp
  gi_wp2
  generalize hW2 : (W.alloc (.cells #[cl1 N] 92)).alloc (.cells #[.string ⟨#[]⟩] 9) = W2 at *
  have q1 := (hb2.cell (p := ⟨Bt, 0, none⟩) (World.block_lt_of_cell? W _ hBt)).trans hBt
  have q2 := (hb2.cell (p := ⟨M, 0, none⟩) (World.block_lt_of_cell? W _ hM)).trans hM
  have q3 := (hb2.cell (p := ⟨Bk, 0, none⟩) (World.block_lt_of_cell? W _ hBk)).trans hBk
  have q4 := (hb2.cell (p := ⟨Bs, 0, none⟩) (World.block_lt_of_cell? W _ hBs)).trans hBs
  have HBS : Hid (Bs < W.heap.size ∧ W.cell? ⟨Bs, 0, none⟩ = some (.int .u64 s)) := ⟨World.block_lt_of_cell? W _ hBs, hBs⟩
  clear hBt hM hBk hBs
  refine wpIn_mono (Q := regPost { tmps := #[cl1 N, .pointer (some ⟨Bt, 0, none⟩), .pointer (some ⟨Bk, 0, none⟩), .pointer (some ⟨Bs, 0, none⟩), .pointer (some ⟨W.heap.size, 0, none⟩), .pointer (some ⟨W.heap.size + 1, 0, none⟩), undef, .pointer (some ⟨M, 0, none⟩), .pointer (some ⟨M, 0, none⟩), .pointer (some ⟨M, 0, none⟩), .pointer (some ⟨L, 0, none⟩), .string k, .int .u64 s, .func (.func 88) #[] #[.pointer (some ⟨W.heap.size + 2, 0, none⟩), .pointer (some ⟨W.heap.size + 2 + 1, 0, none⟩), .pointer (some ⟨W.heap.size + 2 + 2, 0, none⟩)], undef, undef, undef, undef, undef, undef, undef, undef, undef, undef, undef, undef, undef, undef, undef, undef, undef], defers := [] } (((W2.drew.alloc (.cells #[.pointer (some ⟨L, 0, none⟩)] 99)).alloc (.cells #[.string k] 9)).alloc (.cells #[.int .u64 s] 51))) ?reg ?rest
  case reg =>
    gi_region_with (gi_at_call 74; refine (callsIn_wide.2 (from_any L k s _)).mono ?_; rintro e w' ⟨rfl, rfl⟩)
    all_goals exact ⟨rfl, rfl⟩
  case rest =>
    rintro ex a' w' h9
    cases ex with
    | normal =>
      obtain ⟨rfl, rfl⟩ := h9
      have hb5 : Below W2.heap.size W2 (((W2.drew.alloc (.cells #[.pointer (some ⟨L, 0, none⟩)] 99)).alloc (.cells #[.string k] 9)).alloc (.cells #[.int .u64 s] 51)) := ((((Below.refl _ _).drew).alloc (Nat.le_refl _) _).alloc (by simp) _).alloc (by simp; omega) _
      have k1 : (((W2.drew.alloc (.cells #[.pointer (some ⟨L, 0, none⟩)] 99)).alloc (.cells #[.string k] 9)).alloc (.cells #[.int .u64 s] 51)).cell? ⟨W.heap.size + 2, 0, none⟩ = some (.pointer (some ⟨L, 0, none⟩)) := by
        rw [World.cell?_of_block (Below.heap_alloc _ _ _ (by simp <;> omega)), World.cell?_of_block (Below.heap_alloc _ _ _ (by simp <;> omega)), World.cell?_alloc_at _ _ _ _ (by simp; omega)]; rfl
      have k2 : (((W2.drew.alloc (.cells #[.pointer (some ⟨L, 0, none⟩)] 99)).alloc (.cells #[.string k] 9)).alloc (.cells #[.int .u64 s] 51)).cell? ⟨W.heap.size + 2 + 1, 0, none⟩ = some (.string k) := by
        rw [World.cell?_of_block (Below.heap_alloc _ _ _ (by simp <;> omega)), World.cell?_alloc_at _ _ _ _ (by simp; omega)]; rfl
      have k3 : (((W2.drew.alloc (.cells #[.pointer (some ⟨L, 0, none⟩)] 99)).alloc (.cells #[.string k] 9)).alloc (.cells #[.int .u64 s] 51)).cell? ⟨W.heap.size + 2 + 2, 0, none⟩ = some (.int .u64 s) := by
        rw [World.cell?_alloc_at _ _ _ _ (by simp; omega)]; rfl
      have hs5 : (((W2.drew.alloc (.cells #[.pointer (some ⟨L, 0, none⟩)] 99)).alloc (.cells #[.string k] 9)).alloc (.cells #[.int .u64 s] 51)).heap.size = W.heap.size + 5 := by simp; omega
      generalize ((W2.drew.alloc (.cells #[.pointer (some ⟨L, 0, none⟩)] 99)).alloc (.cells #[.string k] 9)).alloc (.cells #[.int .u64 s] 51) = W5 at *
      have HB5 : Hid (Below W.heap.size W W5) := hb2.trans (hb5.mono hb2.size)
      have o1 := (hb5.block (W.heap.size) (by omega)).trans g1
      have o2 := (hb5.block (W.heap.size + 1) (by omega)).trans g2
      have hG5 : Goes u9 T0 W (upd T0 (W.heap.size + 1) 9) W5 := ⟨HB5.out.os, HB5.out.tape, HB5.out.output, HB5.out.size, fun b hb _ => HB5.out.block b hb, fun b hb _ => upd_other _ _ (by omega), fun b hb h0 => by rw [upd_other _ _ (by omega)]; exact h0⟩
      have hz5 : ∀ b, W5.heap.size ≤ b → upd T0 (W.heap.size + 1) 9 b = 0 := fun b hb => by rw [upd_other _ _ (by omega)]; exact HTG.out.2.2 b (by omega)
      have hnl : ∀ nd ∈ ns, nd.b < W.heap.size := fun nd hnd => HW.out.chain.lt hnd
      have hM0 : Mi s nn N (W.heap.size + 1) (upd T0 (W.heap.size + 1) 9) W5 false [] (upd T0 (W.heap.size + 1) 9) W5 := ⟨by
        have h1 := HTK.out.below HB5.out
        have h2 : stt s [] = (⟨#[]⟩, []) := rfl
        rw [h2]
        obtain ⟨v, q5, q6⟩ := h1.out
        exact ⟨fun b p1 p2 => ⟨by rw [upd_other _ _ (by omega)]; exact (h1.tags b p1 p2).1, (h1.tags b p1 p2).2⟩, h1.num, ⟨v, q5, q6.1, fun g hv => by
          have q7 := q6.2 g hv
          rw [upd_other _ _ (by
            rintro rfl
            have := HTG.out.2.2 (W.heap.size + 1) (by omega)
            omega)]
          exact q7⟩, h1.well, h1.end_, h1.fro⟩, Goes.refl _ _ _, hz5, upd_same _ _ _, by rw [cell_of_obj o2]; rfl, froz_of_obj o2⟩
      have HM0 : Hid _ := hM0
      have HNL : Hid (∀ nd ∈ ns, nd.b < W.heap.size) := hnl
      have HO1 : Hid (W5.heap[W.heap.size]? = some (.cells #[cl1 N] 92)) := o1
      have HG5 : Hid (Goes u9 T0 W (upd T0 (W.heap.size + 1) 9) W5) := hG5
      have hBsL := HBS.out.1
      have HB5c : Hid (W5.cell? ⟨Bs, 0, none⟩ = some (.int .u64 s) ∧ upd T0 (W.heap.size + 1) 9 Bs = 0) := ⟨(HB5.out.cell (p := ⟨Bs, 0, none⟩) hBsL).trans HBS.out.2, by rw [upd_other _ _ (by omega)]; exact hBsT⟩
      clear hM0 o1 o2 hG5 hb5 hb2 g1 g2 q1 q2 q3 q4
      gi_wp2
      refine range_each rfl (by decide) (gf := 88) (lb := #[.pointer (some ⟨W.heap.size + 2, 0, none⟩), .pointer (some ⟨W.heap.size + 2 + 1, 0, none⟩), .pointer (some ⟨W.heap.size + 2 + 2, 0, none⟩)]) rfl trivial (enters_of Try.func88 (by kernel_rfl) rfl)
        u9 HUT.out.2 (upd T0 (W.heap.size + 1) 9) hz5
        (from_each u9 HUT.out.2 t HUT.out.1 (upd T0 (W.heap.size + 1) 9) (W.heap.size + 2) (W.heap.size + 2 + 1) (W.heap.size + 2 + 2) L k s ns pre post W5 (HW.out.under HB5.out) (fun nd hnd => by rw [upd_other _ _ (by have := hnl nd hnd; omega)]; exact HTG.out.1 nd hnd) (by rw [upd_other _ _ (by have := HW.out.lt; omega)]; exact HTG.out.2.1) hz5 k1 k2 k3) (fun _ => rfl)
        (fun es T Wc => (nn < 0 ∨ ((stt s es).2.length : Int) < nn) ∧ Mi s nn N (W.heap.size + 1) (upd T0 (W.heap.size + 1) 9) W5 false es T Wc)
        (fun c es T Wc => c = .ret ∧ ((stt s es).2.length : Int) = nn ∧ Mx s nn N (upd T0 (W.heap.size + 1) 9) W5 es T Wc)
        (fun es T A C row h hg hr => ⟨h.1, Mi.lasts (by omega) (by omega) es T A C row h.2 hg hr⟩) (fun c es T A C row h hg hr => ⟨h.1, h.2.1, Mx.lasts (by omega) es T A C row h.2.2 hg hr⟩) ⟨by simp [stt]; omega, HM0.out⟩
        (fun e a' Wc W' => W' = Wc.alloc (.cells #[.string e.1, .int .u64 e.2.1, .bool e.2.2.1, .string e.2.2.2] 77) ∧ a' = { tmps := #[cl1 N, .pointer (some ⟨Bt, 0, none⟩), .pointer (some ⟨Bk, 0, none⟩), .pointer (some ⟨Bs, 0, none⟩), .pointer (some ⟨W.heap.size, 0, none⟩), .pointer (some ⟨W.heap.size + 1, 0, none⟩), .pointer (some ⟨Wc.heap.size, 0, none⟩), .pointer (some ⟨M, 0, none⟩), .pointer (some ⟨M, 0, none⟩), .pointer (some ⟨M, 0, none⟩), .pointer (some ⟨L, 0, none⟩), .string k, .int .u64 s, .func (.func 88) #[] #[.pointer (some ⟨W.heap.size + 2, 0, none⟩), .pointer (some ⟨W.heap.size + 2 + 1, 0, none⟩), .pointer (some ⟨W.heap.size + 2 + 2, 0, none⟩)], .agg #[.string e.1, .int .u64 e.2.1, .bool e.2.2.1, .string e.2.2.2], undef, undef, undef, undef, undef, undef, undef, undef, undef, undef, undef, undef, undef, undef, undef, undef], defers := [] })
        (fun e a' Wc W' h => by rw [h.1]; exact (Below.refl _ _).alloc (Nat.le_refl _) _) ?assign ?body ?done ?stop
      case assign =>
        rintro l ⟨ek, es_, ed, ev⟩ es T Wc K hi hK
        simp only [encE4]
        gi_wp2
        try exact hK _ _ ⟨rfl, rfl⟩
      case body =>
        rintro l ⟨ek, es_, ed, ev⟩ es T a' Wc W' Wb hl1 hl2 ⟨o, ho, hoc⟩ ⟨hnb, hmc⟩ ⟨_, hmi⟩ hz hN9 ⟨rfl, rfl⟩ hg
        dsimp only at *
        have e0 : Wb.heap[Wc.heap.size]? = some (.cells #[.string ek, .int .u64 es_, .bool ed, .string ev] 77) := (hg.block _ (by simp) (fun e => by cases e; omega)).trans (World.alloc_heap_new _ _)
        have hcl : Wc.heap.size < Wb.heap.size := (Array.getElem?_eq_some_iff.1 e0).1
        have c0 : Wb.cell? ⟨Wc.heap.size, 0, none⟩ = some (.string ek) := by rw [cell_of_obj e0]; rfl
        have c1 : Wb.cell? ⟨Wc.heap.size, 1, none⟩ = some (.int .u64 es_) := by rw [cell_of_obj e0]; rfl
        have c2 : Wb.cell? ⟨Wc.heap.size, 2, none⟩ = some (.bool ed) := by rw [cell_of_obj e0]; rfl
        have c3 : Wb.cell? ⟨Wc.heap.size, 3, none⟩ = some (.string ev) := by rw [cell_of_obj e0]; rfl
        have hT0 : upd T0 (W.heap.size + 1) 9 W.heap.size = 0 := by rw [upd_other _ _ (by omega)]; exact HTG.out.2.2 _ (Nat.le_refl _)
        have y0 : Wb.cell? ⟨W.heap.size, 0, none⟩ = some (cl1 N) := by
          rw [cell_of_obj ((hmi.go.block W.heap.size (by omega) (by rw [hT0]; exact HUT.out.2)).trans HO1.out)]; rfl
        have b0 : Wb.cell? ⟨Bs, 0, none⟩ = some (.int .u64 s) := (World.cell?_of_block (a := ⟨Bs, 0, none⟩) (hmi.go.block Bs (by omega) (by rw [HB5c.out.2]; exact HUT.out.2))).trans HB5c.out.1
        have t0 := hmi.cell
        have tf := hmi.fro
        have HMI : Hid (Mi s nn N (W.heap.size + 1) (upd T0 (W.heap.size + 1) 9) W5 false es T Wb ∧ (nn < 0 ∨ ((stt s es).2.length : Int) < nn)) := ⟨hmi, hnb⟩
        have HSN : Hid (stt s (es ++ [(ek, es_, ed, ev)]) = stp s (stt s es) (ek, es_, ed, ev)) := stt_snoc _ _ _
        have HZ : Hid (∀ b, Wc.heap.size ≤ b → T b = 0) := hz
        have HE0 : Hid (Wb.heap[Wc.heap.size]? = some (.cells #[.string ek, .int .u64 es_, .bool ed, .string ev] 77)) := e0
        have hlenb : (stt s es).2.length < 2932031007402 := by have := stt_len s es; omega
        have HLB : Hid ((stt s es).2.length < 2932031007402) := hlenb
        clear hmi hmc hnb hz hg e0 ho hoc hT0 hlenb HO1 HB5c
        by_cases h1 : s < es_
        · have HS : Hid (stt s (es ++ [(ek, es_, ed, ev)]) = stt s es) := by show _ = _; rw [HSN.out]; unfold stp; rw [if_pos (.inl h1)]
          gi_wp2
          exact ⟨T, ⟨by rw [HS.out]; exact HMI.out.2, by have := HMI.out.1; exact ⟨by rw [HS.out]; exact this.tk, this.go, this.zero, this.tag, by rw [HS.out]; exact this.cell, this.fro⟩⟩, Goes.refl _ _ _, HMI.out.1.zero, KeepsFrom.refl _ _⟩
        · by_cases h2 : ek = (stt s es).1
          · have HS : Hid (stt s (es ++ [(ek, es_, ed, ev)]) = stt s es) := by show _ = _; rw [HSN.out]; unfold stp; rw [if_pos (.inr h2)]
            have h3 : (ek.toList == (stt s es).1.toList) = true := by rw [h2]; simp
            clear h2
            gi_wp2
            exact ⟨T, ⟨by rw [HS.out]; exact HMI.out.2, by have := HMI.out.1; exact ⟨by rw [HS.out]; exact this.tk, this.go, this.zero, this.tag, by rw [HS.out]; exact this.cell, this.fro⟩⟩, Goes.refl _ _ _, HMI.out.1.zero, KeepsFrom.refl _ _⟩
          · have HS : Hid (stt s (es ++ [(ek, es_, ed, ev)]) = (ek, (stt s es).2 ++ [(ek, es_, ed, ev)])) := by
              show _ = _
              rw [HSN.out]; unfold stp; rw [if_neg (by rintro (h | h); exact h1 h; exact h2 h)]
            have h3 : (ek.toList == (stt s es).1.toList) = false := by
              rw [beq_eq_false_iff_ne, ByteArray.toList_eq, ByteArray.toList_eq]
              intro h
              exact h2 (ByteArray.ext (Array.toList_inj.1 h))
            clear h2
            have hfT : Fence.wide.fn 72 := trivial
            have HCL : Hid (Calls Try.prog 72 #[.agg #[.string ek, .int .u64 es_, .bool ed, .string ev], .pointer (some ⟨N + 3, 0, none⟩), .pointer (some ⟨N + 2, 0, none⟩), .pointer (some ⟨N + 1, 0, none⟩), .pointer (some ⟨N, 0, none⟩)] Wb fun r w' => r = .returned (.bool (!decide (((stt s es).2.length : Int) + 1 = nn))) ∧ ∃ T', Tk T' w' N nn (decide (((stt s es).2.length : Int) + 1 = nn)) ((stt s es).2 ++ [(ek, es_, ed, ev)]) ∧ Goes uT T Wb T' w' ∧ (∀ b, w'.heap.size ≤ b → T' b = 0) ∧ KeepsOthers Wb w') := takenc_any T Wb N nn (stt s es).2 (ek, es_, ed, ev) HMI.out.1.tk HLB.out HMI.out.1.zero
            have HB9 : Hid (Wc.heap.size < Wb.heap.size ∧ W.heap.size + 1 < Wb.heap.size) := ⟨hcl, World.block_lt_of_cell? Wb _ t0⟩
            by_cases hst9 : ((stt s es).2.length : Int) + 1 = nn
            · have e9 : decide (((stt s es).2.length : Int) + 1 = nn) = true := decide_eq_true hst9
              have HNB : Hid (((stt s (es ++ [(ek, es_, ed, ev)])).2.length : Int) = nn) := by show _ = _; rw [HS.out]; simp; omega
              rw [e9] at HCL
              clear e9 hst9
              gi_wp2_with (gi_at_call 72; refine (CallsIn.inRound l (callsIn_wide.2 HCL.out)).mono ?_; rintro r W7 ⟨rfl, hj2⟩; have HJ2 : Hid (∃ T', Tk T' W7 N nn true ((stt s es).2 ++ [(ek, es_, ed, ev)]) ∧ Goes uT T Wb T' W7 ∧ (∀ b, W7.heap.size ≤ b → T' b = 0) ∧ KeepsOthers Wb W7) := hj2; clear hj2)
              obtain ⟨T', p1, p2, p3, p4⟩ := HJ2.out
              exact ⟨T', ⟨rfl, HNB.out, by rw [HS.out]; exact p1, HMI.out.1.go.trans (p2.mono fun x hx => .inl hx), p3⟩, p4.from _⟩
            · have e9 : decide (((stt s es).2.length : Int) + 1 = nn) = false := decide_eq_false hst9
              have HNB : Hid (nn < 0 ∨ ((stt s (es ++ [(ek, es_, ed, ev)])).2.length : Int) < nn) := by have := HMI.out.2; show _ ∨ _; rw [HS.out]; simp; omega
              rw [e9] at HCL
              clear e9 hst9
              gi_wp2_with (gi_at_call 72; refine (CallsIn.inRound l (callsIn_wide.2 HCL.out)).mono ?_; rintro r W7 ⟨rfl, hj2⟩; have HJ2 : Hid (∃ T', Tk T' W7 N nn false ((stt s es).2 ++ [(ek, es_, ed, ev)]) ∧ Goes uT T Wb T' W7 ∧ (∀ b, W7.heap.size ≤ b → T' b = 0) ∧ KeepsOthers Wb W7) := hj2; clear hj2; have hun : ∀ b, b < Wb.heap.size → T b = 0 ∨ T b = 9 → W7.heap[b]? = Wb.heap[b]? := (fun b hb ht => by obtain ⟨T', _, q2, _⟩ := HJ2.out; exact q2.block b hb (by unfold uT; omega)); have d0 : W7.cell? ⟨Wc.heap.size, 0, none⟩ = some (.string ek) := (by rw [cell_of_obj ((hun _ HB9.out.1 (.inl (HZ.out _ (Nat.le_refl _)))).trans HE0.out)]; rfl); have dt := (World.cell?_of_block (a := ⟨W.heap.size + 1, 0, none⟩) (hun _ HB9.out.2 (.inr HMI.out.1.tag))).trans t0; have df := (World.frozen?_of_block (a := ⟨W.heap.size + 1, 0, none⟩) (hun _ HB9.out.2 (.inr HMI.out.1.tag))).trans tf; clear hun)
              obtain ⟨T', p1, p2, p3, p4⟩ := HJ2.out
              have htg9 : T' (W.heap.size + 1) = 9 := (p2.tag _ HB9.out.2 (by rw [HMI.out.1.tag]; unfold uT; omega)).trans HMI.out.1.tag
              have hgs : Goes u9 T' W7 T' (W7.setCell ⟨W.heap.size + 1, 0, none⟩ (.string ek)) := Goes.setCell (.inr htg9)
              have hgo := (p2.mono (t' := u9) fun x hx => .inl hx).trans hgs
              refine ⟨T', ⟨HNB.out, ?_, HMI.out.1.go.trans hgo, fun b hb => p3 b (by simpa using hb), htg9, ?_, ?_⟩, hgo, fun b hb => p3 b (by simpa using hb), (p4.trans (KeepsOthers.setCell _ _ _)).from _⟩
              · rw [HS.out]
                exact p1.other (d := W.heap.size + 1) (by simp) (fun b hb => Below.heap_setCell _ _ _ b hb) htg9
              · rw [HS.out]
                exact World.cell?_setCell_same _ _ _ dt
              · rw [World.frozen?_setCell]; exact df
      case done =>
        rintro D T Wc hD ⟨hnb, hmi⟩ hDd
        have HEQ : Hid ((stt s (post.map Nd.e)).2 = tkn nn (stt s (post.map Nd.e)).2) := (tkn_all hnb).symm
        gi_wp2
        refine ⟨by simp, .inl ⟨_, _, rfl, run_takeDeferred hDd, ?_⟩⟩
        have hgp := grownBy_putObj' Wc D (.deferred none)
        have hm2 := Mi.lasts (by omega) (by omega) _ T Wc _ (some D) hmi hgp (fun r e => by cases e; exact ⟨by omega, _, hDd, rfl⟩)
        refine ⟨_, results_none rfl _ _ _, ⟨_, rfl⟩, T, false, ?_, HG5.out.trans hm2.go, hm2.zero⟩
        rw [← HEQ.out]
        exact hm2.tk
      case stop =>
        rintro D es T Wc hD hpre ⟨_, hnb, hmi⟩ hDd
        have HEQ : Hid ((stt s es).2 = tkn nn (stt s (post.map Nd.e)).2) := by
          show _ = _
          obtain ⟨r, hr⟩ := stt_pre (s := s) hpre
          rw [← hr]
          exact (tkn_some hnb).symm
        gi_wp2
        refine ⟨by simp, .inl ⟨_, _, rfl, run_takeDeferred hDd, ?_⟩⟩
        have hgp := grownBy_putObj' Wc D (.deferred none)
        have hm2 := Mx.lasts (by omega) _ T Wc _ (some D) hmi hgp (fun r e => by cases e; exact ⟨by omega, _, hDd, rfl⟩)
        refine ⟨_, results_none rfl _ _ _, ⟨_, rfl⟩, T, true, ?_, HG5.out.trans hm2.go, hm2.zero⟩
        rw [← HEQ.out]
        exact hm2.tk
    | ret => exact h9.elim
    | exit id => exact h9.elim
    | goto t => exact h9.elim
    | panic ch => exact h9.elim
    | outgrown => exact h9.elim
end Sk
end Go.Proofs.Ytcioaoanhmpdkaa
namespace Go.Proofs.Ytcioaoanhmpdkaa
namespace Sk
open Go.RowKit Go.Shelf Laws Irw Erw KMath Skm Byt
set_option linter.unusedVariables false
set_option maxRecDepth 100000
set_option linter.unusedSimpArgs false

theorem tkT_lo9 {L : Nat} {ns : List Nd} {N b : Nat} (h : b < N) : ¬ u9 (tkT L ns N b) := by
  unfold tkT u9 uT
  rw [if_neg (by omega)]
  split <;> omega
theorem tkT_else {L : Nat} {ns : List Nd} {N b : Nat} (h : b < N) (hb : b ≠ L ∧ ∀ nd ∈ ns, nd.b ≠ b) : tkT L ns N b = 0 := by
  unfold tkT
  rw [if_neg (by omega), if_neg]
  rintro (h1 | ⟨nd, h1, h2⟩)
  · exact hb.1 h1
  · exact hb.2 nd h1 h2
set_option maxHeartbeats 1000000 in
theorem mtaken_some (nn : Int) (hnn : nn ≠ 0) (Bt Bk Bs M L : Nat) (k : ByteArray) (s : Int) (ns pre post : List Nd) (w : World) (hw : Wk w L k s ns pre post)
    (hBt : w.cell? ⟨Bt, 0, none⟩ = some (.pointer (some ⟨M, 0, none⟩))) (hM : w.cell? ⟨M, 0, none⟩ = some (.pointer (some ⟨L, 0, none⟩))) (hBk : w.cell? ⟨Bk, 0, none⟩ = some (.string k)) (hBs : w.cell? ⟨Bs, 0, none⟩ = some (.int .u64 s)) (hBsn : Bs ≠ L ∧ ∀ nd ∈ ns, nd.b ≠ Bs) (hlen : ns.length ≤ 1000000000) :
    Calls Try.prog 26 #[.func (.func 73) #[] #[.pointer (some ⟨Bt, 0, none⟩), .pointer (some ⟨Bk, 0, none⟩), .pointer (some ⟨Bs, 0, none⟩)], .int .i64 nn] w fun e w' => ∃ a c, e = .returned (.tuple #[.slice a (tkn nn (stt s (post.map Nd.e)).2).length c, .bool true]) ∧ IsE w' a (tkn nn (stt s (post.map Nd.e)).2) ∧ (∀ b off, a = some ⟨b, off, none⟩ → w.heap.size ≤ b) ∧ Below w.heap.size w w' := by
  have HW : Hid (Wk w L k s ns pre post) := hw
  have hmf : ∀ (fn : Fn) (first cap : Array Value) (w : World), (Instr.makeFunc fn first cap).run Try.prog w = .ok (.func fn first cap) w := fun _ _ _ _ => rfl
  have hfn : ∀ (x y z : Nat) (w : World), (binOp .eql 58 (.func (.func 73) #[] #[.pointer (some ⟨x, 0, none⟩), .pointer (some ⟨y, 0, none⟩), .pointer (some ⟨z, 0, none⟩)]) .nilFunc).run Try.prog w = .ok (.bool false) w := fun x y z w => fun_nil _ _ _
  have HNN : Hid (nn ≠ 0) := hnn
  have hn0 : (nn == 0) = false := by simpa using hnn
  clear hw hnn
  go_enter Try.func26, Try.ntmps26
  go_wp2_with fail
  generalize ho1 : (Obj.cells #[.int .i64 nn] 3) = o1
  generalize ho2 : (Obj.cells #[.slice none 0 0] 80) = o2
  generalize ho3 : (Obj.cells #[.bool true] 4) = o3
  generalize ho4 : (Obj.cells #[.bool false] 4) = o4
  have g1 : ((((w.alloc o1).alloc o2).alloc o3).alloc o4).heap[w.heap.size]? = some o1 := by
    rw [Below.heap_alloc _ _ _ (by simp <;> omega), Below.heap_alloc _ _ _ (by simp <;> omega), Below.heap_alloc _ _ _ (by simp <;> omega)]
    exact World.alloc_heap_new w o1
  have g2 : ((((w.alloc o1).alloc o2).alloc o3).alloc o4).heap[w.heap.size + 1]? = some o2 := by
    rw [Below.heap_alloc _ _ _ (by simp <;> omega), Below.heap_alloc _ _ _ (by simp <;> omega)]
    have := World.alloc_heap_new (w.alloc o1) o2
    rwa [World.size_alloc] at this
  have g3 : ((((w.alloc o1).alloc o2).alloc o3).alloc o4).heap[w.heap.size + 2]? = some o3 := by
    rw [Below.heap_alloc _ _ _ (by simp <;> omega)]
    have := World.alloc_heap_new ((w.alloc o1).alloc o2) o3
    rwa [World.size_alloc, World.size_alloc] at this
  have g4 : ((((w.alloc o1).alloc o2).alloc o3).alloc o4).heap[w.heap.size + 3]? = some o4 := by
    have := World.alloc_heap_new (((w.alloc o1).alloc o2).alloc o3) o4
    rwa [World.size_alloc, World.size_alloc, World.size_alloc] at this
  have hb4 : Below w.heap.size w ((((w.alloc o1).alloc o2).alloc o3).alloc o4) := ((((Below.refl _ _).alloc (Nat.le_refl _) _).alloc (by simp) _).alloc (by simp; omega) _).alloc (by simp; omega) _
  have hs4 : ((((w.alloc o1).alloc o2).alloc o3).alloc o4).heap.size = w.heap.size + 4 := by simp
  generalize (((w.alloc o1).alloc o2).alloc o3).alloc o4 = W4 at *
  subst ho1 ho2 ho3 ho4
  have hnl : ∀ nd ∈ ns, nd.b < w.heap.size := fun nd hnd => HW.out.chain.lt hnd
  have hTk : Tk (tkT L ns w.heap.size) W4 w.heap.size nn false [] := by
    refine ⟨fun b h1 h2 => ⟨tkT_box h1 h2, by omega⟩, by rw [cell_of_obj g1]; rfl, ⟨.slice none 0 0, by rw [cell_of_obj g2]; rfl, OwnE.empty _ _ _⟩, by rw [cell_of_obj g3]; rfl, by rw [cell_of_obj g4]; rfl, fun b h1 h2 => ?_⟩
    rcases (show b = w.heap.size ∨ b = w.heap.size + 1 ∨ b = w.heap.size + 2 ∨ b = w.heap.size + 3 by omega) with rfl | rfl | rfl | rfl
    · exact froz_of_obj g1
    · exact froz_of_obj g2
    · exact froz_of_obj g3
    · exact froz_of_obj g4
  refine (callsIn_wide.1 (mfrom_in 1 (by unfold u9 uT; omega) (tkT L ns w.heap.size) Bt Bk Bs M L w.heap.size k s ns pre post W4 (HW.out.under hb4) (fun nd hnd => tkT_node (hnl nd hnd) (.inr ⟨nd, hnd, rfl⟩)) (tkT_node HW.out.lt (.inl rfl)) (fun b hb => tkT_hi (by omega) HW.out.lt hnl) (by omega) ((hb4.cell (p := ⟨Bt, 0, none⟩) (World.block_lt_of_cell? w _ hBt)).trans hBt) ((hb4.cell (p := ⟨M, 0, none⟩) (World.block_lt_of_cell? w _ hM)).trans hM) ((hb4.cell (p := ⟨Bk, 0, none⟩) (World.block_lt_of_cell? w _ hBk)).trans hBk) ((hb4.cell (p := ⟨Bs, 0, none⟩) (World.block_lt_of_cell? w _ hBs)).trans hBs) (tkT_else (World.block_lt_of_cell? w _ hBs) hBsn) nn HNN.out hTk hlen)).mono ?_
  rintro e w5 ⟨⟨v, rfl⟩, T5, en5, h5, hg5, hz5⟩
  have hbl : Below w.heap.size w w5 := hb4.trans ⟨hg5.os, hg5.tape, hg5.output, hg5.size, fun b hb => hg5.block b (by omega) (tkT_lo9 hb)⟩
  obtain ⟨v5, k1, ho5⟩ := h5.out
  obtain ⟨a5, c5, rfl, hi5, _, hn5⟩ := ho5.form
  have k2 := h5.well
  have hfr5 : ∀ b off, a5 = some ⟨b, off, none⟩ → w.heap.size ≤ b := fun b off e => by
    rcases Nat.lt_or_ge b w.heap.size with hb | hb
    · exfalso
      have q1 : T5 b = 7 := by
        subst e
        rcases ho5.1.2 with ⟨q, _⟩ | ⟨g', cap', cur', q, _⟩
        · cases q
        · simp only [Value.slice.injEq, Option.some.injEq, Addr.mk.injEq] at q
          obtain ⟨⟨rfl, rfl, _⟩, _⟩ := q
          exact ho5.2 _ rfl
      have q2 := hg5.tag b (by omega) (tkT_lo9 hb)
      have q3 := tkT_lo9 (L := L) (ns := ns) hb
      rw [← q2, q1] at q3
      exact q3 (.inl (.inl rfl))
    · exact hb
  have HF : Hid (IsE w5 a5 (tkn nn (stt s (post.map Nd.e)).2) ∧ (∀ b off, a5 = some ⟨b, off, none⟩ → w.heap.size ≤ b) ∧ Below w.heap.size w w5) := ⟨hi5, hfr5, hbl⟩
  clear hfr5 hbl ho5 hi5 hn5 h5 hg5 hz5 hTk g1 g2 g3 g4
  go_wp2
  go_quiet (fail)
  go_wp2
  go_ret2
  exact ⟨a5, c5, rfl, HF.out.1.below (below_drewN (Below.refl _ _) _), HF.out.2.1, below_drewN HF.out.2.2 _⟩

end Sk
end Go.Proofs.Ytcioaoanhmpdkaa
namespace Go.Proofs.Ytcioaoanhmpdkaa
namespace Mem
open Go.RowKit Laws Irw Erw KMath Skm Byt Sk
set_option linter.unusedVariables false
set_option maxRecDepth 100000
set_option linter.unusedSimpArgs false

/-- what From tells -/
def frm (k : ByteArray) (s : Int) (es : List En) : List En := (stt s (es.filter fun e => !decide (cmpE e.1 k e.2.1 s < 0))).2
/-- what Get tells -/
def gk (k : ByteArray) (s : Int) (es : List En) : Option En := (es.filter fun e => decide (e.1 = k) && decide (e.2.1 ≤ s)).head?
theorem drop_filter {α : Type} {p : α → Bool} : ∀ {A B : List α}, (∀ a ∈ A, p a = true) → (∀ b ∈ B, p b = false) → (A ++ B).filter (fun x => !p x) = B := by
  intro A B hA hB
  rw [List.filter_append]
  have h1 : A.filter (fun x => !p x) = [] := by
    rw [List.filter_eq_nil_iff]
    intro a ha
    simp [hA a ha]
  have h2 : B.filter (fun x => !p x) = B := by
    rw [List.filter_eq_self]
    intro b hb
    simp [hB b hb]
  rw [h1, h2, List.nil_append]
theorem post_filter {W : World} {L : Nat} {k : ByteArray} {s : Int} {ns pre post : List Nd} (h : Wk W L k s ns pre post) : post.map Nd.e = (ns.map Nd.e).filter fun e => !decide (cmpE e.1 k e.2.1 s < 0) := by
  have h1 : ns.filter (fun n => !aheadB k s n) = post := by
    rw [h.cut]
    exact drop_filter h.hpre h.hpost
  rw [List.filter_map, ← h1]
  rfl
theorem post_getE {W : World} {L : Nat} {k : ByteArray} {s : Int} {ns pre post : List Nd} (h : Wk W L k s ns pre post) (hs : ns.Pairwise (fun a b => ltE a.e b.e)) : getE k post = gk k s (ns.map Nd.e) := by
  have hsp : (post.map Nd.e).Pairwise ltE := by
    rw [List.pairwise_map]
    rw [h.cut] at hs
    exact (List.pairwise_append.1 hs).2.1
  have hpf := post_filter h
  have hmem : ∀ e ∈ ns.map Nd.e, e.1 = k → e.2.1 ≤ s → e ∈ post.map Nd.e := fun e he h1 h2 => by
    rw [hpf, List.mem_filter]
    refine ⟨he, ?_⟩
    simp only [Bool.not_eq_true', decide_eq_false_iff_not]
    rw [cmpE_lt_iff, h1]
    rintro (h3 | h3)
    · rw [bl_irrefl] at h3; cases h3
    · omega
  have hback : ∀ e ∈ post.map Nd.e, e ∈ ns.map Nd.e ∧ ¬ cmpE e.1 k e.2.1 s < 0 := fun e he => by
    rw [hpf, List.mem_filter] at he
    simpa using he
  unfold gk
  cases post with
  | nil =>
    have : (ns.map Nd.e).filter (fun e => decide (e.1 = k) && decide (e.2.1 ≤ s)) = [] := by
      rw [List.filter_eq_nil_iff]
      intro e he h9
      simp only [Bool.and_eq_true, decide_eq_true_eq] at h9
      exact absurd (hmem e he h9.1 h9.2) (by simp)
    rw [this]
    rfl
  | cons n r =>
    have hn := hback n.e (by simp)
    show (if n.e.1 = k then some n.e else none) = _
    by_cases hk : n.e.1 = k
    · rw [if_pos hk]
      have hns : n.e.2.1 ≤ s := by
        have := hn.2
        rw [cmpE_lt_iff, hk] at this
        rcases Int.lt_or_le s n.e.2.1 with h9 | h9
        · exact absurd (.inr ⟨rfl, h9⟩) this
        · exact h9
      have hnm : n.e ∈ (ns.map Nd.e).filter (fun e => decide (e.1 = k) && decide (e.2.1 ≤ s)) := by
        rw [List.mem_filter]
        exact ⟨hn.1, by simp [hk, hns]⟩
      have hsF : ((ns.map Nd.e).filter (fun e => decide (e.1 = k) && decide (e.2.1 ≤ s))).Pairwise ltE := (List.pairwise_map.2 hs).filter _
      cases hF : (ns.map Nd.e).filter (fun e => decide (e.1 = k) && decide (e.2.1 ≤ s)) with
      | nil => rw [hF] at hnm; cases hnm
      | cons x q =>
        rw [hF] at hnm hsF
        have hx : x ∈ (ns.map Nd.e).filter (fun e => decide (e.1 = k) && decide (e.2.1 ≤ s)) := by rw [hF]; simp
        rw [List.mem_filter] at hx
        simp only [Bool.and_eq_true, decide_eq_true_eq] at hx
        have hxp := hmem x hx.1 hx.2.1 hx.2.2
        rcases List.mem_cons.1 hnm with e | e
        · rw [e]; rfl
        · have l1 := (List.pairwise_cons.1 hsF).1 _ e
          rw [List.map_cons] at hxp hsp
          rcases List.mem_cons.1 hxp with e2 | e2
          · rw [e2]; rfl
          · exact absurd ((List.pairwise_cons.1 hsp).1 _ e2) (ltE_asym _ _ l1)
    · rw [if_neg hk]
      have : (ns.map Nd.e).filter (fun e => decide (e.1 = k) && decide (e.2.1 ≤ s)) = [] := by
        rw [List.filter_eq_nil_iff]
        intro e he h9
        simp only [Bool.and_eq_true, decide_eq_true_eq] at h9
        have h10 := hmem e he h9.1 h9.2
        rw [List.map_cons] at h10 hsp
        rcases List.mem_cons.1 h10 with e2 | e2
        · rw [← e2, h9.1] at hk; exact hk rfl
        · have l1 := (List.pairwise_cons.1 hsp).1 _ e2
          unfold ltE at l1
          rw [cmpE_lt_iff, h9.1] at l1
          have l2 := hn.2
          rw [cmpE_lt_iff] at l2
          rcases l1 with l1 | l1
          · exact l2 (.inl l1)
          · exact hk (toList_inj l1.1)
      rw [this]
      rfl
theorem get_mem {t : Nat} {T : Nat → Nat} {w : World} {M L : Nat} {ds : List Nat} {ns : List Nd} {fz : Bool} (h : Mt t T w M L ds ns fz) (k : ByteArray) (s : Int) :
    Calls Try.prog 25 #[.pointer (some ⟨M, 0, none⟩), .string k, .int .u64 s] w fun r w' => r = .returned (getV (gk k s (ns.map Nd.e))) ∧ Below w.heap.size w w' := by
  obtain ⟨pre, post, hwk⟩ := Wk.of h.sl k s
  have h1 := get_any h k s
  rw [← post_of hwk, post_getE hwk h.sl.sorted] at h1
  exact h1
theorem from_mem (M : Nat) (k : ByteArray) (s : Int) (w : World) {B : Nat} (hB : w.heap.size = B) :
    Calls Try.prog 27 #[.pointer (some ⟨M, 0, none⟩), .string k, .int .u64 s] w fun e w' => e = .returned (.func (.func 73) #[] #[.pointer (some ⟨B, 0, none⟩), .pointer (some ⟨B + 1, 0, none⟩), .pointer (some ⟨B + 2, 0, none⟩)]) ∧ Below w.heap.size w w' ∧ w'.cell? ⟨B, 0, none⟩ = some (.pointer (some ⟨M, 0, none⟩)) ∧ w'.cell? ⟨B + 1, 0, none⟩ = some (.string k) ∧ w'.cell? ⟨B + 2, 0, none⟩ = some (.int .u64 s) := by
  subst hB
  go_enter Try.func27, Try.ntmps27
  go_wp2
  go_ret
  refine ⟨rfl, (((Below.refl _ _).alloc (Nat.le_refl _) _).alloc (by simp) _).alloc (by simp; omega) _, ?_, ?_, ?_⟩
  · rw [World.cell?_of_block (Below.heap_alloc _ _ _ (by simp <;> omega)), World.cell?_of_block (Below.heap_alloc _ _ _ (by simp <;> omega)), World.cell?_alloc_at _ _ _ _ rfl]; rfl
  · rw [World.cell?_of_block (Below.heap_alloc _ _ _ (by simp <;> omega)), World.cell?_alloc_at _ _ _ _ (by simp)]; rfl
  · rw [World.cell?_alloc_at _ _ _ _ (by simp)]; rfl
theorem mtaken_mem {t : Nat} {T : Nat → Nat} {w : World} {M L : Nat} {ds : List Nat} {ns : List Nd} {fz : Bool} (h : Mt t T w M L ds ns fz) {B n : Nat} {k : ByteArray} {s : Int} (hl : ns.length ≤ 1000000000) (hBT : T (B + 2) ≠ t) (hn : (frm k s (ns.map Nd.e)).length = n) (k1 : w.cell? ⟨B, 0, none⟩ = some (.pointer (some ⟨M, 0, none⟩))) (k2 : w.cell? ⟨B + 1, 0, none⟩ = some (.string k)) (k3 : w.cell? ⟨B + 2, 0, none⟩ = some (.int .u64 s)) :
    Calls Try.prog 26 #[.func (.func 73) #[] #[.pointer (some ⟨B, 0, none⟩), .pointer (some ⟨B + 1, 0, none⟩), .pointer (some ⟨B + 2, 0, none⟩)], .int .i64 (-1)] w fun e w' => ∃ a c, e = .returned (.tuple #[.slice a n c, .bool true]) ∧ IsE w' a (frm k s (ns.map Nd.e)) ∧ (∀ b off, a = some ⟨b, off, none⟩ → w.heap.size ≤ b) ∧ Below w.heap.size w w' := by
  obtain ⟨pre, post, hwk⟩ := Wk.of h.sl k s
  have := mtaken_some (-1) (by omega) B (B + 1) (B + 2) M L k s ns pre post w hwk k1 h.c0 k2 k3 ⟨fun e => hBT (by rw [e]; exact h.sl.tag), fun nd hnd e => hBT (by rw [← e]; exact h.sl.tags nd hnd)⟩ hl
  have e : tkn (-1) (stt s (post.map Nd.e)).2 = frm k s (ns.map Nd.e) := by
    rw [tkn_all (.inl (by omega)), post_filter hwk]
    rfl
  rw [e, hn] at this
  exact this
end Mem
end Go.Proofs.Ytcioaoanhmpdkaa
namespace Go.Proofs.Ytcioaoanhmpdkaa
namespace Mem
open Go.RowKit Laws Irw Erw KMath Skm Byt Sk Grp Crw Chk
set_option linter.unusedVariables false
theorem wS_sum (ns : List Nd) : wS ns = sumW (ns.map Nd.e) := by unfold wS sumW; rw [List.map_map]; rfl
theorem lM_last : ∀ (ns : List Nd), lM ns = lastE (ns.map Nd.e)
  | [] => rfl
  | n :: r => by simp only [lM, List.map_cons, lastE, lM_last r]
/-- the key of the last entry -/
def lk (out : List En) : ByteArray := if out = [] then ⟨#[]⟩ else (out.getD (out.length - 1) ez).1
theorem lk_snoc (out : List En) (e : En) : lk (out ++ [e]) = e.1 := by
  unfold lk
  rw [if_neg (by simp)]
  simp
theorem frm_fold (k : ByteArray) (s : Int) : ∀ (es : List En) (st : ByteArray × List En), (∀ e ∈ es, 0 < e.1.size) → st.1 = lk st.2 → ((es.filter fun e => !decide (cmpE e.1 k e.2.1 s < 0)).foldl (stp s) st).2 = es.foldl (fstep k s) st.2
  | [], st, _, _ => rfl
  | e :: r, st, h0, hst => by
    have he := h0 e (by simp)
    have hr : ∀ x ∈ r, 0 < x.1.size := fun x hx => h0 x (by simp [hx])
    by_cases hp : cmpE e.1 k e.2.1 s < 0
    · have hf : fstep k s st.2 e = st.2 := by
        rw [cmpE_lt_iff] at hp
        unfold fstep
        rw [if_neg]
        rintro ⟨h1, h2, _⟩
        rcases hp with hp | hp
        · rw [h1] at hp; cases hp
        · have := hp.2; omega
      rw [List.filter_cons_of_neg (by simp [hp]), List.foldl_cons, hf]
      exact frm_fold k s r st hr hst
    · rw [List.filter_cons_of_pos (by simp [hp]), List.foldl_cons, List.foldl_cons]
      have hb : Op.bytesLess e.1.toList k.toList = false := by
        cases hq : Op.bytesLess e.1.toList k.toList with
        | false => rfl
        | true => exact absurd ((cmpE_lt_iff _ _ _ _).2 (.inl hq)) hp
      by_cases hs : s < e.2.1 ∨ e.1 = st.1
      · have h1 : stp s st e = st := by unfold stp; rw [if_pos hs]
        have h2 : fstep k s st.2 e = st.2 := by
          unfold fstep
          rw [if_neg]
          rintro ⟨_, h2, h3⟩
          rcases hs with hs | hs
          · omega
          · rw [hst] at hs
            unfold lk at hs
            by_cases hn : st.2 = []
            · rw [if_pos hn] at hs
              rw [hs] at he
              exact absurd he (by decide)
            · rw [if_neg hn] at hs
              rcases h3 with h3 | h3
              · exact hn h3
              · exact h3 hs.symm
        rw [h1, h2]
        exact frm_fold k s r st hr hst
      · have h1 : stp s st e = (e.1, st.2 ++ [e]) := by unfold stp; rw [if_neg hs]
        have h2 : fstep k s st.2 e = st.2 ++ [e] := by
          unfold fstep
          rw [if_pos]
          refine ⟨hb, by omega, ?_⟩
          by_cases hn : st.2 = []
          · exact .inl hn
          · refine .inr fun h3 => hs (.inr ?_)
            rw [hst]
            unfold lk
            rw [if_neg hn]
            exact h3.symm
        rw [h1, h2]
        exact frm_fold k s r (e.1, st.2 ++ [e]) hr (lk_snoc _ _).symm
theorem frm_eq {k : ByteArray} {s : Int} {es : List En} (h : ∀ e ∈ es, okE e) : frm k s es = es.foldl (fstep k s) [] := frm_fold k s es (⟨#[]⟩, []) (fun e he => (h e he).1) rfl
theorem takeWhile_cut {α : Type} {p : α → Bool} : ∀ {A B : List α}, (∀ a ∈ A, p a = true) → (∀ b ∈ B, p b = false) → (A ++ B).takeWhile p = A
  | [], B, _, hB => by
    cases B with
    | nil => rfl
    | cons b r => rw [List.nil_append, List.takeWhile_cons, hB b (by simp)]; rfl
  | a :: A, B, hA, hB => by
    rw [List.cons_append, List.takeWhile_cons, hA a (by simp)]
    simp only [if_true]
    rw [takeWhile_cut (fun x hx => hA x (by simp [hx])) hB]
theorem plc_wk {W : World} {L : Nat} {k : ByteArray} {s : Int} {ns pre post : List Nd} (h : Wk W L k s ns pre post) : plc k s (ns.map Nd.e) = pre.length := by
  unfold plc
  have : (ns.map Nd.e).takeWhile (fun x => ahB x (atE k s)) = pre.map Nd.e := by
    rw [h.cut, List.map_append]
    exact takeWhile_cut (fun a ha => by obtain ⟨n, hn, rfl⟩ := List.mem_map.1 ha; exact h.hpre n hn) (fun b hb => by obtain ⟨n, hn, rfl⟩ := List.mem_map.1 hb; exact h.hpost n hn)
  rw [this, List.length_map]
theorem rgk_get {W : World} {L : Nat} {k : ByteArray} {s : Int} {ns pre post : List Nd} (h : Wk W L k s ns pre post) : rgk k s (ns.map Nd.e) = getE k post := by
  unfold rgk
  rw [plc_wk h]
  have hc : ns.map Nd.e = pre.map Nd.e ++ post.map Nd.e := by rw [h.cut, List.map_append]
  rw [hc]
  cases post with
  | nil => rw [if_neg (by simp)]; rfl
  | cons n r =>
    have hg : (pre.map Nd.e ++ (n :: r).map Nd.e).getD pre.length ez = n.e := by
      rw [List.getD_eq_getElem?_getD, List.getElem?_append_right (by simp)]
      simp
    rw [hg]
    show _ = if n.e.1 = k then some n.e else none
    by_cases hk : n.e.1 = k
    · rw [if_pos ⟨by simp, hk⟩, if_pos hk]
    · rw [if_neg (fun q => hk q.2), if_neg hk]
theorem gk_rgk {t : Nat} {T : Nat → Nat} {w : World} {L : Nat} {ds : List Nat} {ns : List Nd} (h : Sl t T w L ds ns) (k : ByteArray) (s : Int) : gk k s (ns.map Nd.e) = rgk k s (ns.map Nd.e) := by
  obtain ⟨pre, post, hwk⟩ := Wk.of h k s
  rw [rgk_get hwk, post_getE hwk h.sorted]
end Mem
end Go.Proofs.Ytcioaoanhmpdkaa
