import Derived.Test.YtcioaoanhmpdkaaMmM
namespace Go.Proofs.Ytcioaoanhmpdkaa
namespace Mem
open Go.RowKit Laws Irw Erw KMath Skm Byt Sk
set_option linter.unusedVariables false
set_option maxRecDepth 100000
set_option linter.unusedSimpArgs false

def addE (fz : Bool) (ws : List Chk.Wr) : Int := if fz = true then 60 else Chk.errB ws
def AddAns (t : Nat) (T : Nat → Nat) (w : World) (M L : Nat) (ds : List Nat) (ns : List Nd) (fz : Bool) (first : Int) (ws : List Chk.Wr) (w' : World) : Prop :=
  ∃ T' ns', Mt t T' w' M L ds ns' fz ∧ Goes (uM t) T w T' w' ∧ ((addE fz ws = 0 ∧ Adds ds ns (Ents.ents first ws) ns') ∨ (addE fz ws ≠ 0 ∧ ns' = ns))
theorem uM0 {t : Nat} (h : 0 < t) : ¬ uM t 0 := by unfold uM; omega
set_option maxHeartbeats 1000000 in
theorem add_any (t : Nat) (T : Nat → Nat) (w : World) (M L : Nat) (ds : List Nat) (ns : List Nd) (fz : Bool) (h : Mt t T w M L ds ns fz) (ht : 0 < t) (hlen : ds.length ≤ 140737488355328) (hn : ns.length ≤ 100000000) (hz : ∀ b, w.heap.size ≤ b → T b = 0)
    (first : Int) (a : Option Addr) (cap n : Nat) (ws : List Chk.Wr) (hw : Chk.IsWr w a ws) (hwn : ws.length = n) :
    Calls Try.prog 22 #[.pointer (some ⟨M, 0, none⟩), .int .u64 first, .slice a n cap] w fun r w' => r = .returned (.int .i64 (addE fz ws)) ∧ AddAns t T w M L ds ns fz first ws w' := by
  have HM : Hid (Mt t T w M L ds ns fz) := h
  have HZ : Hid (∀ b, w.heap.size ≤ b → T b = 0) := hz
  have HCB : Hid (Calls Try.prog 68 #[.slice a n cap] w fun e w' => e = .returned (.int .i64 (Chk.errB ws)) ∧ Below w.heap.size w w') := by
    have := Bat.checkBatch_any a cap ws w hw
    rw [hwn] at this
    exact this
  have HEN : Hid (∀ W, Below w.heap.size w W → Chk.errB ws = 0 → Calls Try.prog 69 #[.int .u64 first, .slice a n cap] W fun e w' => e = .returned (.slice (some ⟨W.heap.size, 0, none⟩) n n) ∧ IsE w' (some ⟨W.heap.size, 0, none⟩) (Ents.ents first ws) ∧ Below W.heap.size W w') := fun W hW h0 => by
    have := Ents.entries_any first a cap ws W (hw.below hW) (by have := (errB_zero h0).1; omega)
    rw [hwn] at this
    exact this
  have hc3 := h.c3
  cases fz with
  | true =>
    clear h hz hw HCB HEN
    have HAE : Hid (addE true ws = 60) := rfl
    go_enter Try.func22, Try.ntmps22
    go_wp2
    go_ret
    exact ⟨by rw [HAE.out]; rfl, T, ns, HM.out, Goes.refl _ _ _, .inr ⟨by rw [HAE.out]; decide, rfl⟩⟩
  | false =>
    have HAE : Hid (addE false ws = Chk.errB ws) := rfl
    clear h hz hw
    go_enter Try.func22, Try.ntmps22
    go_wp2_with fail
    refine HCB.out.mono ?_
    rintro e w1 ⟨rfl, hb1⟩
    have HB1 : Hid (Below w.heap.size w w1) := hb1
    clear hb1 hc3 HCB
    by_cases h0 : Chk.errB ws = 0
    · have HE0 : Hid (Chk.errB ws = 0) := h0
      have HEN1 : Hid (Calls Try.prog 69 #[.int .u64 first, .slice a n cap] w1 fun e w' => e = .returned (.slice (some ⟨w1.heap.size, 0, none⟩) n n) ∧ IsE w' (some ⟨w1.heap.size, 0, none⟩) (Ents.ents first ws) ∧ Below w1.heap.size w1 w') := HEN.out w1 HB1.out h0
      rw [h0]
      clear h0 HEN
      go_wp2_with fail
      refine HEN1.out.mono ?_
      rintro e w2 ⟨rfl, hi2, hb2⟩
      have HB2 : Hid (Below w.heap.size w w2) := HB1.out.trans (hb2.mono HB1.out.size)
      obtain ⟨es, hes⟩ : ∃ es, Ents.ents first ws = es := ⟨_, rfl⟩
      have HES : Hid (Ents.ents first ws = es ∧ es.length = n ∧ ∀ e ∈ es, okE e) := ⟨hes, by rw [← hes, Ents.ents_length]; exact hwn, by rw [← hes]; exact ents_ok first HE0.out⟩
      have HW1 : Hid (w.heap.size ≤ w1.heap.size) := HB1.out.size
      have hn16 : n ≤ 16 := by have := (errB_zero HE0.out).1; omega
      rw [hes] at hi2
      have HI2 : Hid (IsE w2 (some ⟨w1.heap.size, 0, none⟩) es) := hi2
      clear hi2 hb2 HEN1 hes
      go_wp2
      go_loopw [23, 9] (fun i _ wr => ∃ (k : Nat) (Tk : Nat → Nat) (nk : List Nd), k ≤ n ∧ i = .int .i64 (k : Int) ∧ Hid (Mt t Tk wr M L ds nk false ∧ Goes (uM t) T w2 Tk wr ∧ Adds ds ns (es.take k) nk)) (fun i _ _ => n - (intOf i).toNat)
      case atStart => exact ⟨0, T, ns, Nat.zero_le _, rfl, HM.out.below HB2.out, Goes.refl _ _ _, by rw [List.take_zero]; exact .nil⟩
      case round =>
        obtain ⟨k, Tk, nk, hk, rfl, HK⟩ := hrel
        by_cases hlt : k < n
        · obtain ⟨hmk, hgk, hak⟩ := HK.out
          have hkl : k < es.length := by rw [HES.out.2.1]; exact hlt
          have hnk : nk.length ≤ 1000000000 := by
            have h1 := hak.len
            have h2 : (es.take k).length ≤ k := List.length_take_le _ _
            omega
          have hzk : ∀ b, wr.heap.size ≤ b → Tk b = 0 := fun b hb => hgk.high b hb (HZ.out b (by have := hgk.size; have := HB2.out.size; omega))
          obtain ⟨b4, o4, e4, hb4, x0, x1, x2, x3⟩ := SkipOrder.rd HI2.out hkl
          simp only [Option.some.injEq, Addr.mk.injEq] at e4
          obtain ⟨rfl, rfl, _⟩ := e4
          have hbk := hgk.block w1.heap.size hb4 (by rw [HZ.out _ HW1.out]; exact uM0 ht)
          have y0 := (World.cell?_of_block (a := ⟨w1.heap.size, 0 + k * 4, none⟩) hbk).trans x0
          have y1 := (World.cell?_of_block (a := ⟨w1.heap.size, 0 + k * 4 + 1, none⟩) hbk).trans x1
          have y2 := (World.cell?_of_block (a := ⟨w1.heap.size, 0 + k * 4 + 2, none⟩) hbk).trans x2
          have y3 := (World.cell?_of_block (a := ⟨w1.heap.size, 0 + k * 4 + 3, none⟩) hbk).trans x3
          simp only [Nat.zero_add] at y0 y1 y2 y3
          have hxk : es.getD k ez = es[k] := by simp [hkl]
          have HTK : Hid (es.take (k + 1) = es.take k ++ [es.getD k ez] ∧ okE (es.getD k ez)) := ⟨by rw [hxk]; exact List.take_succ_eq_append_getElem hkl, by rw [hxk]; exact HES.out.2.2 _ (List.getElem_mem hkl)⟩
          have HTA : Hid (∀ W, Below wr.heap.size wr W → Calls Try.prog 70 #[.pointer (some ⟨M, 0, none⟩), .agg #[.string (es.getD k ez).1, .int .u64 (es.getD k ez).2.1, .bool (es.getD k ez).2.2.1, .string (es.getD k ez).2.2.2]] W fun r w' => (∃ v, r = .returned v) ∧ TakeAns t Tk W M L ds nk false (es.getD k ez) w') := fun W hW => take_any t Tk W M L ds nk false _ (hmk.below hW) ht hlen hnk HTK.out.2 (fun b hb => hzk b (Nat.le_trans hW.size hb))
          clear x0 x1 x2 x3 hmk hgk hak hzk hnk hbk hxk hkl hb4
          have q1 : (k : Int) < (n : Int) := by omega
          generalize es.getD k ez = x at *
          obtain ⟨xk, xs, xd, xv⟩ := x
          dsimp only at y0 y1 y2 y3 HTA
          go_wp2_with (go_at_call 70; refine (HTA.out _ ?_).mono ?_; exact (Below.refl _ _).alloc (Nat.le_refl _) _; rintro r w5 ⟨⟨v5, rfl⟩, hta⟩; have HT5 : Hid (TakeAns t Tk wr M L ds nk false (xk, xs, xd, xv) w5) := (by obtain ⟨T5, n5, ok5, p1, p2, p3⟩ := hta; exact ⟨T5, n5, ok5, p1, (Goes.below ((Below.refl _ _).alloc (Nat.le_refl _) _)).trans p2, p3⟩); clear hta)
          go_roundw
          case rel =>
            obtain ⟨T5, n5, ok5, p1, p2, p3⟩ := HT5.out
            exact ⟨k + 1, T5, n5, by omega, by go_num, p1, HK.out.2.1.trans p2, by rw [HTK.out.1]; exact .snoc HK.out.2.2 p3⟩
          case measure => simp [intOf]; omega
        · obtain rfl : k = n := by omega
          go_wp2
          go_ret
          refine ⟨by rw [HAE.out, HE0.out]; rfl, Tk, nk, HK.out.1, (Goes.below HB2.out).trans HK.out.2.1, .inl ⟨by rw [HAE.out, HE0.out], ?_⟩⟩
          have := HK.out.2.2
          rw [List.take_of_length_le (by rw [HES.out.2.1]; exact Nat.le_refl _)] at this
          rw [HES.out.1]
          exact this
    · have HE0 : Hid (Chk.errB ws ≠ 0) := h0
      have h00 : ¬ Chk.errB ws = 0 := h0
      clear HEN h0
      generalize hX : Chk.errB ws = X at *
      go_wp2
      go_ret
      exact ⟨by rw [HAE.out]; rfl, T, ns, HM.out.below HB1.out, Goes.below HB1.out, .inr ⟨by rw [HAE.out]; exact HE0.out, rfl⟩⟩
end Mem
end Go.Proofs.Ytcioaoanhmpdkaa
namespace Go.Proofs.Ytcioaoanhmpdkaa
namespace Mem
open Go.RowKit Laws Irw Erw KMath Skm Byt Sk
set_option linter.unusedVariables false
set_option maxRecDepth 100000
set_option linter.unusedSimpArgs false

def getE (k : ByteArray) : List Nd → Option En
  | [] => none
  | n :: _ => if n.e.1 = k then some n.e else none
def getV : Option En → Value
  | none => .tuple #[.agg #[.string ⟨#[]⟩, .int .u64 0, .bool false, .string ⟨#[]⟩], .bool false]
  | some e => .tuple #[.agg #[.string e.1, .int .u64 e.2.1, .bool e.2.2.1, .string e.2.2.2], .bool true]
set_option maxHeartbeats 1000000 in
theorem get_any {t : Nat} {T : Nat → Nat} {w : World} {M L : Nat} {ds : List Nat} {ns : List Nd} {fz : Bool} (h : Mt t T w M L ds ns fz) (k : ByteArray) (s : Int) :
    Calls Try.prog 25 #[.pointer (some ⟨M, 0, none⟩), .string k, .int .u64 s] w fun r w' => r = .returned (getV (getE k (ns.dropWhile (aheadB k s)))) ∧ Below w.heap.size w w' := by
  obtain ⟨pre, post, hwk⟩ := Wk.of h.sl k s
  have hpo := post_of hwk
  rw [← hpo]
  have hc0 := h.c0
  have hlt := h.lt
  have HS : Hid (∀ W, Below w.heap.size w W → Calls Try.prog 71 #[.pointer (some ⟨L, 0, none⟩), .string k, .int .u64 s] W fun e w' => e = .returned (seekV post) ∧ Below W.heap.size W w') := fun W hW => callsIn_wide.1 (seek_in L k s ns pre post W (hwk.under hW))
  clear h hwk hpo
  have HB1 : Hid (Below w.heap.size w (w.alloc (.cells #[.string ⟨#[]⟩, .int .u64 0, .bool false, .string ⟨#[]⟩] 77))) := (Below.refl _ _).alloc (Nat.le_refl _) _
  have g1 : (w.alloc (.cells #[.string ⟨#[]⟩, .int .u64 0, .bool false, .string ⟨#[]⟩] 77)).heap[w.heap.size]? = some (.cells #[.string ⟨#[]⟩, .int .u64 0, .bool false, .string ⟨#[]⟩] 77) := World.alloc_heap_new _ _
  have hc1 := (HB1.out.cell (p := ⟨M, 0, none⟩) hlt).trans hc0
  clear hc0
  go_enter Try.func25, Try.ntmps25
  generalize hW1 : w.alloc (.cells #[.string ⟨#[]⟩, .int .u64 0, .bool false, .string ⟨#[]⟩] 77) = W1 at *
  go_wp2_with fail
  try rw [hW1]
  refine (HS.out W1 HB1.out).mono ?_
  rintro r w2 ⟨rfl, hb2⟩
  have hE : w.heap.size < W1.heap.size := (Array.getElem?_eq_some_iff.1 g1).1
  have g2 := (hb2.block _ hE).trans g1
  have HB2 : Hid (Below w.heap.size w w2) := HB1.out.trans (hb2.mono HB1.out.size)
  have hs2 : w.heap.size < w2.heap.size := Nat.lt_of_lt_of_le hE hb2.size
  clear hW1 hb2 hc1 g1 HS HB1
  have HB3 : ∀ x, Hid (Below w2.heap.size w2 (w2.alloc (.cells #[.string (x : En).1, .int .u64 x.2.1, .bool x.2.2.1, .string x.2.2.2] 77))) := fun x => (Below.refl _ _).alloc (Nat.le_refl _) _
  have g3 : ∀ x, Hid ((w2.alloc (.cells #[.string (x : En).1, .int .u64 x.2.1, .bool x.2.2.1, .string x.2.2.2] 77)).heap[w2.heap.size]? = some (.cells #[.string x.1, .int .u64 x.2.1, .bool x.2.2.1, .string x.2.2.2] 77)) := fun x => World.alloc_heap_new _ _
  cases post with
  | nil =>
    have k1 := (HB3 (⟨#[]⟩, 0, false, ⟨#[]⟩)).out
    clear HB3 g3
    unfold seekV
    dsimp only at *
    have f0 : w2.cell? ⟨w.heap.size, 0, none⟩ = some (.string ⟨#[]⟩) := by rw [cell_of_obj g2]; rfl
    have f1 : w2.cell? ⟨w.heap.size, 1, none⟩ = some (.int .u64 0) := by rw [cell_of_obj g2]; rfl
    have f2 : w2.cell? ⟨w.heap.size, 2, none⟩ = some (.bool false) := by rw [cell_of_obj g2]; rfl
    have f3 : w2.cell? ⟨w.heap.size, 3, none⟩ = some (.string ⟨#[]⟩) := by rw [cell_of_obj g2]; rfl
    have fz1 : ∀ j, w2.frozen? ⟨w.heap.size, j, none⟩ = false := fun j => froz_of_obj g2
    have K1 : Hid _ := k1
    clear k1 g2
    go_wp2
    clear K1
    obtain ⟨q0, q1, q2, q3⟩ := set4_cells (v0 := .string ⟨#[]⟩) (v1 := .int .u64 0) (v2 := .bool false) (v3 := .string ⟨#[]⟩) ⟨f0, f1, f2, f3⟩
    have hb5 : Below w.heap.size w ((((w2.setCell ⟨w.heap.size, 0, none⟩ (.string ⟨#[]⟩)).setCell ⟨w.heap.size, 1, none⟩ (.int .u64 0)).setCell ⟨w.heap.size, 2, none⟩ (.bool false)).setCell ⟨w.heap.size, 3, none⟩ (.string ⟨#[]⟩)) := (((HB2.out.setCell (p := ⟨w.heap.size, 0, none⟩) (Nat.le_refl _) _).setCell (p := ⟨w.heap.size, 1, none⟩) (Nat.le_refl _) _).setCell (p := ⟨w.heap.size, 2, none⟩) (Nat.le_refl _) _).setCell (p := ⟨w.heap.size, 3, none⟩) (Nat.le_refl _) _
    have hsz : w.heap.size < ((((w2.setCell ⟨w.heap.size, 0, none⟩ (.string ⟨#[]⟩)).setCell ⟨w.heap.size, 1, none⟩ (.int .u64 0)).setCell ⟨w.heap.size, 2, none⟩ (.bool false)).setCell ⟨w.heap.size, 3, none⟩ (.string ⟨#[]⟩)).heap.size := by simpa using hs2
    generalize (((w2.setCell ⟨w.heap.size, 0, none⟩ (.string ⟨#[]⟩)).setCell ⟨w.heap.size, 1, none⟩ (.int .u64 0)).setCell ⟨w.heap.size, 2, none⟩ (.bool false)).setCell ⟨w.heap.size, 3, none⟩ (.string ⟨#[]⟩) = W4 at *
    have hb6 : Below W4.heap.size W4 (W4.alloc (.cells #[.string ⟨#[]⟩, .int .u64 0, .bool false, .string ⟨#[]⟩] 77)) := (Below.refl _ _).alloc (Nat.le_refl _) _
    have hb7 := hb5.trans (hb6.mono hb5.size)
    rw [← hb6.cell (p := ⟨w.heap.size, 0, none⟩) hsz] at q0
    rw [← hb6.cell (p := ⟨w.heap.size, 1, none⟩) hsz] at q1
    rw [← hb6.cell (p := ⟨w.heap.size, 2, none⟩) hsz] at q2
    rw [← hb6.cell (p := ⟨w.heap.size, 3, none⟩) hsz] at q3
    generalize W4.alloc (.cells #[.string ⟨#[]⟩, .int .u64 0, .bool false, .string ⟨#[]⟩] 77) = W6 at *
    refine bodyPost_ret (v := getV none) ?_ rfl ⟨rfl, hb7⟩
    simp [results, Try.results25, go_sem, getV, q0, q1, q2, q3]
  | cons n r =>
    obtain ⟨nb, ⟨ek, es, ed, ev⟩, nh⟩ := n
    have k1 := (HB3 (ek, es, ed, ev)).out
    have k2 := (g3 (ek, es, ed, ev)).out
    clear HB3 g3
    unfold seekV
    dsimp only at *
    generalize hW3 : w2.alloc (.cells #[.string ek, .int .u64 es, .bool ed, .string ev] 77) = W3 at *
    have o1 := (k1.block _ hs2).trans g2
    have f0 : W3.cell? ⟨w.heap.size, 0, none⟩ = some (.string ⟨#[]⟩) := by rw [cell_of_obj o1]; rfl
    have f1 : W3.cell? ⟨w.heap.size, 1, none⟩ = some (.int .u64 0) := by rw [cell_of_obj o1]; rfl
    have f2 : W3.cell? ⟨w.heap.size, 2, none⟩ = some (.bool false) := by rw [cell_of_obj o1]; rfl
    have f3 : W3.cell? ⟨w.heap.size, 3, none⟩ = some (.string ⟨#[]⟩) := by rw [cell_of_obj o1]; rfl
    have fz1 : ∀ j, W3.frozen? ⟨w.heap.size, j, none⟩ = false := fun j => froz_of_obj o1
    have d0 : W3.cell? ⟨w2.heap.size, 0, none⟩ = some (.string ek) := by rw [cell_of_obj k2]; rfl
    have d1 : W3.cell? ⟨w2.heap.size, 1, none⟩ = some (.int .u64 es) := by rw [cell_of_obj k2]; rfl
    have d2 : W3.cell? ⟨w2.heap.size, 2, none⟩ = some (.bool ed) := by rw [cell_of_obj k2]; rfl
    have d3 : W3.cell? ⟨w2.heap.size, 3, none⟩ = some (.string ev) := by rw [cell_of_obj k2]; rfl
    have HB4 : Hid (Below w.heap.size w W3) := HB2.out.trans (k1.mono HB2.out.size)
    clear k1 k2 o1 g2
    by_cases hk : ek = k
    · subst hk
      have HG : Hid (getE ek (⟨nb, (ek, es, ed, ev), nh⟩ :: r) = some (ek, es, ed, ev)) := by show (if ek = ek then _ else _) = _; rw [if_pos rfl]
      have h2' : (ek.toList == ek.toList) = true := by simp
      go_wp2
      try rw [hW3]
      obtain ⟨q0, q1, q2, q3⟩ := set4_cells (v0 := .string ek) (v1 := .int .u64 es) (v2 := .bool ed) (v3 := .string ev) ⟨f0, f1, f2, f3⟩
      have hb5 : Below w.heap.size w ((((W3.setCell ⟨w.heap.size, 0, none⟩ (.string ek)).setCell ⟨w.heap.size, 1, none⟩ (.int .u64 es)).setCell ⟨w.heap.size, 2, none⟩ (.bool ed)).setCell ⟨w.heap.size, 3, none⟩ (.string ev)) := (((HB4.out.setCell (p := ⟨w.heap.size, 0, none⟩) (Nat.le_refl _) _).setCell (p := ⟨w.heap.size, 1, none⟩) (Nat.le_refl _) _).setCell (p := ⟨w.heap.size, 2, none⟩) (Nat.le_refl _) _).setCell (p := ⟨w.heap.size, 3, none⟩) (Nat.le_refl _) _
      generalize (((W3.setCell ⟨w.heap.size, 0, none⟩ (.string ek)).setCell ⟨w.heap.size, 1, none⟩ (.int .u64 es)).setCell ⟨w.heap.size, 2, none⟩ (.bool ed)).setCell ⟨w.heap.size, 3, none⟩ (.string ev) = W4 at *
      refine bodyPost_ret (v := getV (some (ek, es, ed, ev))) ?_ rfl ⟨by rw [HG.out], hb5⟩
      simp [results, Try.results25, go_sem, getV, q0, q1, q2, q3]
    · have HG : Hid (getE k (⟨nb, (ek, es, ed, ev), nh⟩ :: r) = none) := by show (if ek = k then _ else _) = _; rw [if_neg hk]
      have hs2' : (ek.toList == k.toList) = false := by
        rw [beq_eq_false_iff_ne]
        exact fun e => hk (toList_inj e)
      clear hk
      go_wp2
      try rw [hW3]
      obtain ⟨q0, q1, q2, q3⟩ := set4_cells (v0 := .string ⟨#[]⟩) (v1 := .int .u64 0) (v2 := .bool false) (v3 := .string ⟨#[]⟩) ⟨f0, f1, f2, f3⟩
      have hb5 : Below w.heap.size w ((((W3.setCell ⟨w.heap.size, 0, none⟩ (.string ⟨#[]⟩)).setCell ⟨w.heap.size, 1, none⟩ (.int .u64 0)).setCell ⟨w.heap.size, 2, none⟩ (.bool false)).setCell ⟨w.heap.size, 3, none⟩ (.string ⟨#[]⟩)) := (((HB4.out.setCell (p := ⟨w.heap.size, 0, none⟩) (Nat.le_refl _) _).setCell (p := ⟨w.heap.size, 1, none⟩) (Nat.le_refl _) _).setCell (p := ⟨w.heap.size, 2, none⟩) (Nat.le_refl _) _).setCell (p := ⟨w.heap.size, 3, none⟩) (Nat.le_refl _) _
      generalize (((W3.setCell ⟨w.heap.size, 0, none⟩ (.string ⟨#[]⟩)).setCell ⟨w.heap.size, 1, none⟩ (.int .u64 0)).setCell ⟨w.heap.size, 2, none⟩ (.bool false)).setCell ⟨w.heap.size, 3, none⟩ (.string ⟨#[]⟩) = W4 at *
      refine bodyPost_ret (v := getV none) ?_ rfl ⟨by rw [HG.out], hb5⟩
      simp [results, Try.results25, go_sem, getV, q0, q1, q2, q3]
end Mem
end Go.Proofs.Ytcioaoanhmpdkaa
