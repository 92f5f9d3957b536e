import Derived.Test.YtcioaoanhmpdkaaMm1
import Derived.Test.YtcioaoanhmpdkaaTk3
namespace Go.Proofs.Ytcioaoanhmpdkaa
namespace Sk
open Go.RowKit Laws Irw Erw KMath Skm Byt
set_option linter.unusedVariables false
set_option maxRecDepth 100000
set_option linter.unusedSimpArgs false

theorem eq_sorted {α : Type} {r : α → α → Prop} (ha : ∀ a b, r a b → ¬ r b a) : ∀ {l m : List α}, l.Perm m → l.Pairwise r → m.Pairwise r → l = m
  | [], m, hp, _, _ => by rw [List.nil_perm.1 hp]
  | a :: l, [], hp, _, _ => by have := hp.length_eq; simp at this
  | a :: l, b :: m, hp, h1, h2 => by
    obtain ⟨p1, p2⟩ := List.pairwise_cons.1 h1
    obtain ⟨q1, q2⟩ := List.pairwise_cons.1 h2
    have hab : a = b := by
      have m1 : a ∈ b :: m := hp.mem_iff.1 List.mem_cons_self
      have m2 : b ∈ a :: l := hp.mem_iff.2 List.mem_cons_self
      rcases List.mem_cons.1 m1 with e | m1
      · exact e
      · rcases List.mem_cons.1 m2 with e | m2
        · exact e.symm
        · exact absurd (q1 a m1) (ha a b (p1 b m2))
    subst hab
    rw [eq_sorted ha hp.cons_inv p2 q2]
theorem ltE_asym (a b : En) (h : ltE a b) : ¬ ltE b a := by
  unfold ltE at *
  have := cmpE_neg a.1 b.1 a.2.1 b.2.1
  omega

theorem cmp1 (x y : UInt8) (m n : Int) : cmpE ⟨#[x]⟩ ⟨#[y]⟩ m n = if x < y then -1 else if y < x then 1 else if n < m then -1 else if m < n then 1 else 0 := by
  have e1 : (⟨#[x]⟩ : ByteArray).toList = [x] := by rw [ByteArray.toList_eq]
  have e2 : (⟨#[y]⟩ : ByteArray).toList = [y] := by rw [ByteArray.toList_eq]
  unfold cmpE cmpS cmpN
  rw [e1, e2]
  by_cases h1 : x < y
  · simp [Op.bytesLess, h1]
  · by_cases h2 : y < x
    · simp [Op.bytesLess, h1, h2]
    · simp [Op.bytesLess, h1, h2]
theorem cmpE_lt_iff (a b : ByteArray) (m n : Int) : cmpE a b m n < 0 ↔ Op.bytesLess a.toList b.toList = true ∨ (a.toList = b.toList ∧ n < m) := by
  rcases cmpS_cases a b with ⟨h1, e1⟩ | ⟨h1, e1⟩ | ⟨h1, e1⟩
  · rw [cmpE_ne (by omega), e1]; simp [h1]
  · rw [cmpE_eq e1]
    have hb : Op.bytesLess a.toList b.toList = false := by rw [h1]; exact bl_irrefl _
    unfold cmpN
    by_cases h2 : n < m
    · simp [h2, h1]
    · by_cases h3 : m < n
      · simp [h2, h3, h1, bl_irrefl]
      · simp [h2, h3, h1, bl_irrefl]
  · rw [cmpE_ne (by omega), e1]
    have hb := bl_asymm _ _ h1
    have hne : a.toList ≠ b.toList := by intro e; rw [e, bl_irrefl] at h1; cases h1
    simp [hb, hne]
theorem toList_inj {a b : ByteArray} (h : a.toList = b.toList) : a = b := by
  rw [ByteArray.toList_eq, ByteArray.toList_eq] at h
  obtain ⟨x⟩ := a
  obtain ⟨y⟩ := b
  have : x = y := Array.toList_inj.1 h
  rw [this]
/-- what is behind a place -/
theorem post_of {W : World} {L : Nat} {k : ByteArray} {s : Int} {ns pre post : List Nd} (h : Wk W L k s ns pre post) : post = ns.dropWhile (aheadB k s) := by
  rw [h.cut, List.dropWhile_append_of_pos h.hpre]
  cases hp : post with
  | nil => rfl
  | cons n r => rw [List.dropWhile_cons, h.hpost n (by rw [hp]; simp)]; rfl
theorem post_all {W : World} {L : Nat} {ns pre post : List Nd} (h : Wk W L ⟨#[]⟩ 18446744073709551615 ns pre post) (hm : ∀ n ∈ ns, n.e.2.1 ≤ 18446744073709551615) : post = ns := by
  have hp : pre = [] := by
    cases hp : pre with
    | nil => rfl
    | cons n r =>
      have h1 := h.hpre n (by rw [hp]; simp)
      have h2 : cmpE n.e.1 ⟨#[]⟩ n.e.2.1 18446744073709551615 < 0 := by simpa [aheadB] using h1
      rw [cmpE_lt_iff] at h2
      have h3 := hm n (by rw [h.cut, hp]; simp)
      rcases h2 with h2 | h2
      · have : (⟨#[]⟩ : ByteArray).toList = [] := by rw [ByteArray.toList_eq]
        rw [this] at h2
        cases hl : n.e.1.toList <;> rw [hl] at h2 <;> simp [Op.bytesLess] at h2
      · omega
  rw [h.cut, hp]; rfl
end Sk
namespace SkipOrder
open Go.RowKit Laws Irw Erw KMath Skm Byt Sk
theorem rd {w : World} {a : Option Addr} {l : List En} (h : IsE w a l) {k : Nat} (hk : k < l.length) : ∃ b off, a = some ⟨b, off, none⟩ ∧ b < w.heap.size ∧ w.cell? ⟨b, off + k * 4, none⟩ = some (.string (l.getD k ez).1) ∧ w.cell? ⟨b, off + k * 4 + 1, none⟩ = some (.int .u64 (l.getD k ez).2.1) ∧ w.cell? ⟨b, off + k * 4 + 2, none⟩ = some (.bool (l.getD k ez).2.2.1) ∧ w.cell? ⟨b, off + k * 4 + 3, none⟩ = some (.string (l.getD k ez).2.2.2) := by
  obtain ⟨b, off, e, hr⟩ := h.at_ (by omega)
  exact ⟨b, off, e, hr.1, hr.2 k (l.getD k ez) (by simp [hk])⟩

end SkipOrder
namespace Sk
open Go.RowKit Laws Irw Erw KMath Skm Byt
/-- two lists of entries that are alike -/
theorem sameEntries_true (a b : Option Addr) (ca cb n : Nat) (l : List En) (w : World) (ha : IsE w a l) (hb : IsE w b l) (hn : l.length = n) (hl : n ≤ 2932031007402) :
    Calls Try.prog 29 #[.slice a n ca, .slice b n cb] w fun e w' => e = .returned (.bool true) ∧ ∃ n, w' = w.drewN n := by
  have HA : Hid (IsE w a l) := ha
  have HB : Hid (IsE w b l) := hb
  have HNN : Hid (l.length = n) := hn
  clear ha hb hn
  go_enter Try.func29, Try.ntmps29
  go_wp2
  go_loopw [5] (fun i wr => ∃ k m : Nat, k ≤ n ∧ i = .int .i64 k ∧ wr = w.drewN m) (fun i _ => n - (intOf i).toNat)
  case atStart => exact ⟨0, 0, Nat.zero_le _, rfl, rfl⟩
  case round =>
    obtain ⟨k, m, hk, rfl, rfl⟩ := hrel
    by_cases hlt : k < n
    · have hlt' : k < l.length := by rw [HNN.out]; exact hlt
      obtain ⟨b1, o1, rfl, _, x0, x1, x2, x3⟩ := SkipOrder.rd HA.out hlt'
      obtain ⟨b2, o2, rfl, _, y0, y1, y2, y3⟩ := SkipOrder.rd HB.out hlt'
      have q1 : (k : Int) < (n : Int) := by omega
      generalize l.getD k ez = y at *
      obtain ⟨yk, ys, yd, yv⟩ := y
      dsimp only at x0 x1 x2 x3 y0 y1 y2 y3
      clear hlt'
      go_wp2
      go_quiet (fail)
      go_wp2
      go_roundw
      case rel => exact ⟨k + 1, _, by omega, by go_num, rfl⟩
      case measure => simp [intOf]; omega
    · go_wp2
      go_ret
      exact ⟨rfl, _, rfl⟩
theorem ltE_ne {a b : En} (h : ltE a b) : cmpE a.1 b.1 a.2.1 b.2.1 ≠ 0 := by unfold ltE at h; omega
theorem cmpE_ne_symm {a b : En} (h : cmpE a.1 b.1 a.2.1 b.2.1 ≠ 0) : cmpE b.1 a.1 b.2.1 a.2.1 ≠ 0 := by
  intro h0
  apply h
  rw [cmpE_zero_iff] at h0 ⊢
  exact ⟨h0.1.symm, h0.2.symm⟩
end Sk
namespace Mem
open Go.RowKit Laws Irw Erw KMath Skm Byt Sk

/-- entries put in, one by one -/
inductive Adds (ds : List Nat) (ns : List Nd) : List En → List Nd → Prop
  | nil : Adds ds ns [] ns
  | snoc {es : List En} {ns1 ns2 : List Nd} {e : En} {ok : Bool} : Adds ds ns es ns1 → PutIs ds ns1 e ns2 ok → Adds ds ns (es ++ [e]) ns2
theorem Adds.len {ds : List Nat} {ns ns' : List Nd} {es : List En} (h : Adds ds ns es ns') : ns'.length ≤ ns.length + es.length := by
  induction h with
  | nil => simp
  | snoc h1 h2 ih =>
    rw [List.length_append, List.length_singleton]
    rcases h2 with ⟨_, rfl, _⟩ | ⟨_, _, pre, post, b, rfl, rfl⟩
    · omega
    · simp at ih ⊢; omega
/-- of entries that stand nowhere all are put in -/
theorem Adds.perm {ds : List Nat} {ns ns' : List Nd} {es : List En} (h : Adds ds ns es ns') (hd : (ns.map Nd.e ++ es).Pairwise (fun a b => cmpE a.1 b.1 a.2.1 b.2.1 ≠ 0)) : (ns'.map Nd.e).Perm (ns.map Nd.e ++ es) := by
  induction h with
  | nil => simp
  | @snoc es ns1 ns2 e ok h1 h2 ih =>
    rw [← List.append_assoc, List.pairwise_append] at hd
    have ih := ih hd.1
    rcases h2 with ⟨_, rfl, nd, h3, h4⟩ | ⟨_, _, pre, post, b, rfl, rfl⟩
    · exact absurd h4 (hd.2.2 nd.e (ih.mem_iff.1 (List.mem_map.2 ⟨nd, h3, rfl⟩)) e (by simp))
    · rw [← List.append_assoc, List.map_append, List.map_cons]
      refine (List.perm_middle).trans ?_
      rw [List.map_append] at ih
      exact (ih.cons _).trans (List.perm_append_comm (l₁ := [e]))
theorem Adds.append {ds : List Nat} {ns ns1 : List Nd} {es : List En} (h : Adds ds ns es ns1) {fs : List En} {ns2 : List Nd} (k : Adds ds ns1 fs ns2) : Adds ds ns (es ++ fs) ns2 := by
  induction k with
  | nil => simpa using h
  | snoc _ h2 ih => rw [← List.append_assoc]; exact .snoc ih h2
theorem errL_zero {ws : List Chk.Wr} (h : Chk.errL ws = 0) : ∀ x ∈ ws, Chk.errW x.1 x.2.1 x.2.2 = 0 := by
  induction ws with
  | nil => simp
  | cons x r ih =>
    unfold Chk.errL at h
    split at h
    · rename_i h0
      intro y hy
      rcases List.mem_cons.1 hy with rfl | hy
      · exact h0
      · exact ih h y hy
    · rename_i h0; exact absurd h h0
theorem errW_ok {x : Chk.Wr} (h : Chk.errW x.1 x.2.1 x.2.2 = 0) : 0 < x.1.size ∧ x.1.size ≤ 64 ∧ (Chk.val x.2.1 x.2.2).size ≤ 512 := by
  unfold Chk.errW Chk.err at h
  repeat (split at h)
  all_goals first
    | omega
    | (refine ⟨?_, ?_, ?_⟩ <;> omega)
theorem seqAt_in (first : Int) (k : Nat) : 0 ≤ Ents.seqAt first k ∧ Ents.seqAt first k ≤ 18446744073709551615 := by
  unfold Ents.seqAt
  rw [IntKind.wrap_u64]
  omega
theorem errB_zero {ws : List Chk.Wr} (h : Chk.errB ws = 0) : ws.length ≤ 16 ∧ ∀ x ∈ ws, 0 < x.1.size ∧ x.1.size ≤ 64 ∧ (Chk.val x.2.1 x.2.2).size ≤ 512 := by
  unfold Chk.errB at h
  split at h
  · cases h
  · exact ⟨by omega, fun x hx => errW_ok (errL_zero h x hx)⟩
theorem ents_ok {ws : List Chk.Wr} (first : Int) (h : Chk.errB ws = 0) : ∀ e ∈ Ents.ents first ws, okE e := by
  intro e he
  obtain ⟨i, hi, rfl⟩ := List.mem_iff_getElem.1 he
  rw [Ents.ents_length] at hi
  have hx : (Ents.ents first ws)[i]? = some (ws[i].1, Ents.seqAt first i, ws[i].2.1, Chk.val ws[i].2.1 ws[i].2.2) := Ents.ents_get (List.getElem?_eq_getElem hi)
  rw [List.getElem?_eq_getElem (by rw [Ents.ents_length]; exact hi)] at hx
  rw [Option.some.inj hx]
  obtain ⟨h1, h2, h3⟩ := (errB_zero h).2 ws[i] (List.getElem_mem hi)
  exact ⟨h1, h2, by dsimp only; rw [Wei.val_val]; exact h3, (seqAt_in first i).1, (seqAt_in first i).2⟩
end Mem
end Go.Proofs.Ytcioaoanhmpdkaa
