import Derived.Test.YtnhhalabmmcemaaDoorTaX
import Derived.Test.YtnhhalabmmcemaaDoorTg1
namespace Go.Proofs.YtnhhalabmmcemaaDoor
namespace Tbl
open Go.RowKit CMath Byt Laws Irw Crw Cod Qb
set_option linter.unusedVariables false
set_option linter.unusedSimpArgs false
set_option maxRecDepth 20000

/-- What the keys and the values of a list take. -/
def vSz (e : En) : Nat := if e.2.2.1 then 0 else e.2.2.2.size
def kS (l : List En) : Nat := (l.map fun e => e.1.size).sum
def vS (l : List En) : Nat := (l.map vSz).sum
theorem kS_cons (e : En) (l : List En) : kS (e :: l) = e.1.size + kS l := by simp [kS]
theorem vS_cons (e : En) (l : List En) : vS (e :: l) = vSz e + vS l := by simp [vS]
theorem kS_app (l m : List En) : kS (l ++ m) = kS l + kS m := by simp [kS]
theorem vS_app (l m : List En) : vS (l ++ m) = vS l + vS m := by simp [vS]
theorem kS_mem {l : List En} {e : En} (h : e ∈ l) : e.1.size ≤ kS l := by
  induction l with
  | nil => simp at h
  | cons x l ih =>
    rw [kS_cons]
    rcases List.mem_cons.1 h with rfl | h
    · omega
    · have := ih h; omega
theorem ent_fine {e : En} (h : Ok e) {s : Nat} (hs : s ≤ (kB e).length) (h0 : 0 ≤ e.2.1) : (entB s e).length ≤ 13 + e.1.size + vSz e := by
  obtain ⟨k, q, d, v⟩ := e
  have hk : (kB (k, q, d, v)).length = k.size := strB_length k
  have h1 := h.k2
  have h2 := h.q
  simp only at h1 h2 h0
  have n1 := num_len s 1 (by omega) (by omega)
  have n2 := num_len ((kB (k, q, d, v)).length - s) 1 (by omega) (by omega)
  have n3 := num_len (tag (k, q, d, v)) 9 (by unfold tag; simp only; split <;> omega) (by omega)
  unfold entB
  cases d with
  | true => simp [vSz]; omega
  | false =>
    have h3 := h.v rfl
    have hv : (vB (k, q, false, v)).length = v.size := strB_length v
    simp only at h3
    have n4 := num_len (vB (k, q, false, v)).length 2 (by rw [hv]; omega) (by omega)
    simp [words, vSz]
    omega
theorem sh_le (R : Nat) (s : St) (e : En) : sh R s e ≤ (kB e).length := by
  unfold sh
  split
  · omega
  · exact shr_le_right _ _
theorem pushes_fine' (R : Nat) (l : List En) : ∀ s, (∀ e ∈ l, Ok e ∧ 0 ≤ e.2.1) → (pushes R s l).b.length ≤ s.b.length + 13 * l.length + kS l + vS l := by
  induction l with
  | nil => intro s _; simp [pushes, kS, vS]
  | cons e l ih =>
    intro s h
    rw [pushes_cons, kS_cons, vS_cons]
    have h1 := ih (push R s e) (fun x hx => h x (by simp [hx]))
    obtain ⟨h2, h3⟩ := h e (by simp)
    have h4 := ent_fine h2 (sh_le R s e) h3
    have h5 : (push R s e).b.length = s.b.length + (entB (sh R s e) e).length := by simp [push]
    simp only [List.length_cons]
    omega
theorem blk_fine (R : Nat) (l : List En) (h : ∀ e ∈ l, Ok e ∧ 0 ≤ e.2.1) : (blk (pushes R st0 l)).length ≤ 17 * l.length + 8 + kS l + vS l := by
  have h1 := pushes_fine' R l st0 h
  have h2 := pushes_plen R l st0
  have h3 : st0.p.length = 0 := rfl
  have h4 : st0.b.length = 0 := rfl
  rw [blk_len]
  omega
theorem laid_fine (R : Nat) (css : List (List En)) (h : ∀ e ∈ css.flatten, Ok e ∧ 0 ≤ e.2.1) (hne : ∀ cs ∈ css, cs ≠ []) : (laidOf R css).length ≤ 25 * css.flatten.length + kS css.flatten + vS css.flatten := by
  induction css with
  | nil => simp [laidOf, kS, vS]
  | cons a css ih =>
    have h1 := ih (fun x hx => h x (by simp at hx ⊢; right; exact hx)) (fun x hx => hne x (by simp [hx]))
    have h2 := List.length_pos_iff.2 (hne a (by simp))
    have h3 := blk_fine R a (fun x hx => h x (by simp [hx]))
    rw [laid_cons, List.length_append, List.flatten_cons, List.length_append, kS_app, vS_app]
    omega
theorem ixs_fine (R : Nat) (css : List (List En)) : ∀ p, (∀ cs ∈ css, cs ≠ []) → p + (laidOf R css).length < 9223372036854775808 → kS (ixs R p css) ≤ kS css.flatten ∧ vS (ixs R p css) ≤ 20 * css.flatten.length := by
  induction css with
  | nil => intro p _ _; simp [ixs, kS, vS]
  | cons c css ih =>
    intro p hne hp
    have hc0 := hne c (by simp)
    rw [laid_cons, List.length_append] at hp
    obtain ⟨h1, h2⟩ := ih (p + (blk (pushes R st0 c)).length) (fun x hx => hne x (by simp [hx])) (by omega)
    obtain ⟨e, he, hl⟩ := lastE_mem hc0 ⟨#[]⟩
    have h3 := kS_mem he
    have h4 := ixV_size p (blk (pushes R st0 c)).length (by omega) (by omega)
    have h5 := List.length_pos_iff.2 hc0
    rw [ixs, kS_cons, vS_cons, List.flatten_cons, List.length_append, kS_app, hl]
    simp only [vSz]
    refine ⟨by omega, ?_⟩
    simp only [Bool.false_eq_true, if_false]
    omega
theorem filter_fine (ks : List (List Nat)) (b : Int) : (BMath.mk ks b).length ≤ 2 * ks.length + 9 := by
  unfold BMath.mk
  split
  · simp
  · rename_i hb
    have h1 : (min b 16).toNat ≤ 16 := by omega
    have h2 : ks.length * (min b 16).toNat ≤ ks.length * 16 := Nat.mul_le_mul_left _ h1
    rw [List.length_append, BMath.body_length]
    unfold BMath.places
    simp only [List.length_cons, List.length_nil]
    omega
theorem foot_fine {a b c : Nat} {m : Mt} (hlo : m.lo.size ≤ 64) (hhi : m.hi.size ≤ 64) : (foot a b c m).length ≤ 57 + m.lo.size + m.hi.size := by
  have h1 : (num m.lo.size).length = 1 := by rw [num_small (by omega)]; rfl
  have h2 : (num m.hi.size).length = 1 := by rw [num_small (by omega)]; rfl
  unfold foot footB
  simp only [List.length_append, List.length_cons, List.length_nil, words_len']
  have := pre_len [(a : Int), b, c, m.n, m.wt] 5
  omega
theorem wt_ok {e : En} (h : Ok e) : Wei.wt e.1 e.2.2.1 e.2.2.2 = ((448 + 2 * e.1.size + vSz e : Nat) : Int) := by
  obtain ⟨k, q, d, v⟩ := e
  have h1 := h.k2
  simp only at h1
  cases d with
  | true =>
    show Wei.wt k true v = _
    rw [Wei.wt_del]
    simp only [vSz, if_true]
    unfold wrap64
    omega
  | false =>
    have h3 := h.v rfl
    simp only at h3
    show wrap64 (wrap64 (wrap64 (2 * (k.size : Int)) + (v.size : Int)) + 448) = _
    simp only [vSz, Bool.false_eq_true, if_false]
    unfold wrap64
    omega
theorem wt_sum (l : List En) : ∀ m : Mt, 0 ≤ m.wt → m.wt ≤ 1000000000000 → l.length ≤ 100000 → (∀ e ∈ l, Ok e) → (l.foldl Mt.more m).wt = m.wt + ((448 * l.length + 2 * kS l + vS l : Nat) : Int) := by
  have key : ∀ (l : List En) (m : Mt), 0 ≤ m.wt → m.wt + 10000 * l.length ≤ 2000000000000 → (∀ e ∈ l, Ok e) → (l.foldl Mt.more m).wt = m.wt + ((448 * l.length + 2 * kS l + vS l : Nat) : Int) := by
    intro l
    induction l with
    | nil => intro m _ _ _; simp [kS, vS]
    | cons e l ih =>
      intro m h0 h1 h2
      have ho := h2 e (by simp)
      have hw := wt_ok ho
      have k2 := ho.k2
      have hv : vSz e ≤ 512 := by
        unfold vSz
        cases hd : e.2.2.1 with
        | true => simp
        | false => simpa using ho.v hd
      have hm : (m.more e).wt = m.wt + ((448 + 2 * e.1.size + vSz e : Nat) : Int) := by
        show wrap64 (m.wt + Wei.wt e.1 e.2.2.1 e.2.2.2) = _
        rw [hw]
        simp only [List.length_cons] at h1
        unfold wrap64
        omega
      simp only [List.length_cons] at h1
      rw [List.foldl_cons, ih (m.more e) (by rw [hm]; omega) (by rw [hm]; omega) (fun x hx => h2 x (by simp [hx])), hm, kS_cons, vS_cons]
      simp only [List.length_cons]
      omega
  intro m h0 h1 hn h2
  exact key l m h0 (by omega) h2
theorem ks_le (l : List En) (h2 : ∀ e ∈ l, Ok e ∧ 0 ≤ e.2.1) : kS l ≤ 64 * l.length ∧ vS l ≤ 512 * l.length := by
  induction l with
  | nil => simp [kS, vS]
  | cons e l ih =>
    obtain ⟨i1, i2⟩ := ih (fun x hx => h2 x (by simp [hx]))
    have ho := (h2 e (by simp)).1
    have k2 := ho.k2
    have hv : vSz e ≤ 512 := by
      unfold vSz
      cases hd : e.2.2.1 with
      | true => simp
      | false => simpa using ho.v hd
    rw [kS_cons, vS_cons, List.length_cons]
    omega
/-- A table lies within its weight. -/
theorem fits_len {r bits : Int} {L : Ts} {css : List (List En)} (h : Inv (Rn r) bits L css []) (hn : css.flatten.length ≤ 100000) (hz : css.flatten ≠ []) :
    ((whole bits L).length : Int) + L.mt.lo.size + L.mt.hi.size + 40 ≤ L.mt.wt ∧ L.mt.wt ≤ 10000000000 ∧ L.mt.lo.size ≤ 64 ∧ L.mt.hi.size ≤ 64 := by
  obtain ⟨h1, h2⟩ := h.sizes
  have hnil : css.flatten ++ [] = css.flatten := List.append_nil _
  rw [hnil] at h2
  have hp := List.length_pos_iff.2 hz
  have a3 := laid_fine (Rn r) css h2 h.ne
  have a3' := laid_len (Rn r) css h2 h.ne
  have hch := ixs_chain (Rn r) css 0 ⟨#[]⟩ h.ne ((chain_app _ _ _).1 h.ch).1 (by omega)
  have a4 := ixs_fine (Rn r) css 0 h.ne (by omega)
  have a5 := blk_fine (Rn r) (ixs (Rn r) 0 css) (fun e he => ⟨chain_ok hch e he, ixs_nn _ _ _ _ he⟩)
  rw [ixs_len] at a5
  have hm := h.mt
  rw [hnil] at hm
  have hlo : L.mt.lo.size ≤ 64 := by
    rw [hm]
    exact mtF_lo (fun e he => (h2 e he).1.k2)
  have hhi : L.mt.hi.size ≤ 64 := by
    rw [hm]
    obtain ⟨e, he, hl⟩ := lastE_mem hz ⟨#[]⟩
    show (lastE ⟨#[]⟩ css.flatten).size ≤ 64
    rw [hl]; exact (h2 e he).1.k2
  have hw : L.mt.wt = ((448 * css.flatten.length + 2 * kS css.flatten + vS css.flatten : Nat) : Int) := by
    rw [hm]
    show (mtF css.flatten).wt = _
    unfold mtF
    rw [wt_sum css.flatten mt0 (by decide) (by decide) hn (fun e he => (h2 e he).1)]
    show (0 : Int) + _ = _
    omega
  have hks := ks_le css.flatten h2
  have hk : L.keys.length ≤ css.flatten.length := by
    rw [h.keys, hnil]
    split
    · rw [List.length_map]; exact Nat.le_refl _
    · simp
  have hfl := filter_fine (L.keys.map strB) bits
  rw [List.length_map] at hfl
  have hft := foot_fine (a := L.laid.length) (b := (blk L.idx).length) (c := (BMath.mk (L.keys.map strB) bits).length) hlo hhi
  have hW : (whole bits L).length = L.laid.length + ((blk L.idx).length + ((BMath.mk (L.keys.map strB) bits).length + (foot L.laid.length (blk L.idx).length (BMath.mk (L.keys.map strB) bits).length L.mt).length)) + 4 := by
    unfold whole whole0
    simp only [List.length_append, Qb.four_len]
  have e1 : L.laid.length = (laidOf (Rn r) css).length := by rw [h.laid]
  have e2 : (blk L.idx).length = (blk (pushes (Rn r) st0 (ixs (Rn r) 0 css))).length := by rw [h.idx]
  refine ⟨?_, ?_, hlo, hhi⟩
  · rw [hW, hw]
    omega
  · rw [hw]
    omega

end Tbl
end Go.Proofs.YtnhhalabmmcemaaDoor
namespace Go.Proofs.YtnhhalabmmcemaaDoor
namespace TableFits
open Go.RowKit CMath Byt Laws Irw Crw Cod Qb Tbl
set_option linter.unusedVariables false
set_option linter.unusedSimpArgs false
set_option maxRecDepth 100000

theorem sz_of {l : List Qg.En} (h : (l.map Qg.bulkE).sum ≤ 65536) : ∀ e ∈ l, e.1.size ≤ 65536 ∧ e.2.2.2.size ≤ 65536 := fun e he => by
  have h1 := Qg.sum_mem he
  have h2 : Qg.bulkE e = 1 + e.1.size + e.2.2.2.size := rfl
  omega
/-- What made answers, as this statement looks at it. -/
def MfIs (w : World) (e : Ending) (w' : World) : Prop := Below w.heap.size w w' ∧ ((∃ m : Mt, e = .returned (.tuple #[.slice none 0 0, .slice none 0 0, .agg #[.int .u64 0, .int .i64 m.wt, .int .i64 m.by_, .int .i64 (m.n : Int), .string m.lo, .string m.hi], .bool true])) ∨
  ∃ a c a' c' N n wt k lo hi, e = .returned (.tuple #[.slice a N c, .slice a' n c', .agg #[.int .u64 0, .int .i64 wt, .int .i64 (N : Int), .int .i64 k, .string lo, .string hi], .bool true]) ∧ 0 < n ∧ n ≤ 300 ∧ (N : Int) + lo.size + hi.size + 40 ≤ wt ∧ wt ≤ 10000000000 ∧ lo.size ≤ 64 ∧ hi.size ≤ 64)
theorem mf_of {w : World} {bb r bits : Int} {l : List En} {e : Ending} {w' : World} (hn : l.length ≤ 300) (h : MdT w bb r bits l e w') : MfIs w e w' := by
  obtain ⟨hb, h | h⟩ := h
  · obtain ⟨_, m, hm⟩ := h
    exact ⟨hb, .inl ⟨m, hm⟩⟩
  · obtain ⟨hne, L, css, T, a, c, a', c', m, hm, he, hi, hf, _⟩ := h
    have hml : (mds l).length ≤ 300 := Nat.le_trans (mds_all l).2.2 hn
    have h1 := fits_len hi (by rw [hf]; omega) (by rw [hf]; exact hne)
    subst hm
    exact ⟨hb, .inr ⟨a, c, a', c', _, _, _, _, _, _, he, List.length_pos_iff.2 hne, hml, h1⟩⟩
set_option maxHeartbeats 2000000 in
theorem walk (w : World) (ht : Tab w) (bb r bits : Int) (hr : -9223372036854775808 ≤ r ∧ r ≤ 9223372036854775807) (hbt : -9223372036854775808 ≤ bits ∧ bits ≤ 9223372036854775807) (a : Option Addr) (cap : Nat) (l : List Qb.En) (hl : Erw.IsE w a l) (hmx : (l.length : Int) ≤ 9223372036854775807) (hsz : ∀ e ∈ l, e.1.size ≤ maxLen ∧ e.2.2.2.size ≤ maxLen ∧ 0 ≤ e.2.1 ∧ e.2.1 ≤ 18446744073709551615) :
    Calls Tryd.prog 5 #[.int .i64 bb, .int .i64 r, .int .i64 bits, .slice a l.length cap] w fun e w' => e = .returned (.bool true) ∧ Below w.heap.size w w' := by
  have HT := Qb.hid ht
  have HL : Hid (Erw.IsE w a l ∧ ∀ e ∈ l, 0 ≤ e.2.1 ∧ e.2.1 ≤ 18446744073709551615) := ⟨hl, fun e he => (hsz e he).2.2⟩
  have HR := Qb.hid hr
  have HBT := Qb.hid hbt
  have HSM : Hid (Calls Tryd.prog 6 #[.slice a l.length cap] w fun r w' => Qg.SmIs w l r w') := Qg.small_any w a cap _ l rfl hmx hl (fun e he => ⟨(hsz e he).1, (hsz e he).2.1⟩)
  clear ht hl hr hsz hbt hmx
  go_enter Tryd.func5, Tryd.ntmps5
  go_wp2_with (go_at_call 6; fail)
  refine HSM.out.mono ?_
  rintro e w1 ⟨⟨b, rfl, hbs⟩, hb1⟩
  have HB1 : Hid (Below w.heap.size w w1) := hb1
  dsimp only
  cases b with
  | false =>
    clear hbs hb1
    go_wp2
    go_ret
    exact ⟨rfl, HB1.out⟩
  | true =>
    obtain ⟨h300, hbulk⟩ := hbs rfl
    have hs := sz_of hbulk
    have HS : Hid (∀ e ∈ l, e.1.size ≤ 1000000 ∧ e.2.2.2.size ≤ 1000000 ∧ 0 ≤ e.2.1 ∧ e.2.1 < 18446744073709551616) := fun e he => ⟨by have := (hs e he).1; omega, by have := (hs e he).2; omega, (HL.out.2 e he).1, by have := (HL.out.2 e he).2; omega⟩
    have HT1 : Hid (Tab w1) := HT.out.below hb1 HT.out.lt
    have HN := Qb.hid h300
    clear hbs hb1 hbulk hs h300
    go_wp2_with (first
      | (go_at_call 7; go_loud (refine (known_any w1 HT1.out).mono ?_; rintro e w2 ⟨rfl, hb2⟩; have HB2 : Hid (Below w.heap.size w w2) := HB1.out.trans (hb2.mono HB1.out.size); clear hb2))
      | (go_at_call 9; go_loud (refine (config_any bb r bits w2).mono ?_; rintro e w3 ⟨f, rfl, h13, h14, h15, hb3⟩; have HF := Qb.hid (And.intro h13 (And.intro h14 h15)); have HB3 : Hid (Below w.heap.size w w3) := HB2.out.trans (hb3.mono HB2.out.size); generalize hV : cfgA f = V; have HV := Qb.hid hV.symm; clear h13 h14 h15 hb3 hV))
      | (go_at_call 8; fail))
    have HMD : Hid (Calls Tryd.prog 8 #[.agg V, .slice a l.length cap] w3 fun e w' => MfIs w3 e w') :=
      (tmade_any w3 f V HV.out a cap l.length l (HT.out.below HB3.out HT.out.lt) (HL.out.1.below HB3.out) rfl (by have := HN.out; omega) HS.out (by rw [HF.out.2.1]; exact HR.out) (by rw [HF.out.2.2]; exact HBT.out)).mono fun e w' h => mf_of HN.out h
    refine HMD.out.mono ?_
    rintro e w4 ⟨hb4, h | h⟩
    · obtain ⟨m, rfl⟩ := h
      have HB4 : Hid (Below w.heap.size w w4) := HB3.out.trans (hb4.mono HB3.out.size)
      clear hb4
      dsimp only
      go_wp2
      go_ret
      refine ⟨rfl, ?_⟩
      exact HB4.out.alloc HB4.out.size _
    · obtain ⟨a4, c4, a5, c5, N, n, wt, k, lo, hi, rfl, hn0, hn1, hle, hwt, hlo, hhi⟩ := h
      have HB4 : Hid (Below w.heap.size w w4) := HB3.out.trans (hb4.mono HB3.out.size)
      clear hb4
      dsimp only
      go_wp2
      go_ret
      refine ⟨rfl, ?_⟩
      exact HB4.out.alloc HB4.out.size _
end TableFits
end Go.Proofs.YtnhhalabmmcemaaDoor
