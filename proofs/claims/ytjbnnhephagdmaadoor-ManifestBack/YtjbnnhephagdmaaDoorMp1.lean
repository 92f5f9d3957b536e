import Derived.Test.YtjbnnhephagdmaaDoorMs4
namespace Go.Proofs.YtjbnnhephagdmaaDoor
namespace Mnf
open Go.RowKit CMath Byt Cod Crw Irw Laws
set_option linter.unusedVariables false
set_option linter.unusedSimpArgs false
set_option maxRecDepth 20000
def kB : Knd Nat := ⟨5, 1, 1, .int .u8 0, fun x => [.int .u8 (x : Int)], fun _ => rfl, fun x u hu => by simp at hu; subst hu; rfl, by omega, rfl, by omega⟩
def kU : Knd Nat := ⟨29, 1, 8, .int .u64 0, fun x => [.int .u64 (x : Int)], fun _ => rfl, fun x u hu => by simp at hu; subst hu; rfl, by omega, rfl, by omega⟩
theorem infoB : (Tryd.prog.info? 5).map (fun i => (i.zero, i.size, i.bytes)) = some (some kB.zero, 1, 1) := by kernel_rfl
theorem isK_isB {w : World} {a : Option Addr} {l : List Nat} (h : IsB w a l) : IsK kB w a l := fun hne => by
  obtain ⟨b, off, e, h1, h2⟩ := h.1 hne
  refine ⟨b, off, e, h1, fun i x hx j u hu => ?_⟩
  have hj : j = 0 := by
    have := (List.getElem?_eq_some_iff.1 hu).1
    have h1 : (kB.cs x).length = 1 := rfl
    omega
  subst hj
  cases hu
  have := h2 i x hx
  show w.cell? ⟨b, off + i * 1 + 0, none⟩ = _
  rw [Nat.mul_one, Nat.add_zero]
  exact this
theorem isB_isK {w : World} {a : Option Addr} {l : List Nat} (h : IsK kB w a l) (hb : ∀ x ∈ l, x < 256) : IsB w a l := ⟨fun hne => by
  obtain ⟨b, off, e, h1, h2⟩ := h hne
  refine ⟨b, off, e, h1, fun i x hx => ?_⟩
  have := h2 i x hx 0 _ rfl
  have e : off + i * kB.size + 0 = off + i := by show off + i * 1 + 0 = _; omega
  rw [e] at this
  exact this, hb⟩
/-- a list that is read and lies in memory of tag 0 -/
def Isl {α : Type} (K : Knd α) (T : Nat → Nat) (w : World) (s : Sv) (l : List α) : Prop := Ls K w s l ∧ (l ≠ [] → ∀ b off, s.1 = some ⟨b, off, none⟩ → T b = 0)
theorem Isl.goes {α : Type} {K : Knd α} {t : Nat → Prop} {T T' : Nat → Nat} {w w' : World} {s : Sv} {l : List α} (h : Isl K T w s l) (hg : Goes t T w T' w') (ht : ¬ t 0) : Isl K T' w' s l := by
  obtain ⟨⟨h1, h2⟩, h3⟩ := h
  by_cases hl : l = []
  · subst hl
    exact ⟨⟨IsK.nil _ _, h2⟩, fun e => absurd rfl e⟩
  · refine ⟨⟨h1.keep (fun b hb ⟨off, e⟩ => hg.block b hb (by rw [h3 hl b off e]; exact ht)) hg.size, h2⟩, fun _ b off e => ?_⟩
    obtain ⟨b', off', e', hr⟩ := h1 hl
    rw [e] at e'
    cases e'
    exact (hg.tag b hr.1 (by rw [h3 hl b off e]; exact ht)).trans (h3 hl b off e)
theorem Isl.old {α : Type} {K : Knd α} {T : Nat → Nat} {w0 w : World} {s : Sv} {l : List α} (h : Ls K w0 s l) (ho : Old w0 T w) : Isl K T w s l := by
  refine ⟨⟨h.1.below ho.below, h.2⟩, fun hl b off e => ?_⟩
  obtain ⟨b', off', e', hr⟩ := h.1 hl
  rw [e] at e'
  cases e'
  exact ho.zero b (.inl hr.1)
/-- what was laid: bytes of one's own -/
def LaIs (T : Nat → Nat) (w : World) (l : List Nat) (e : Ending) (w' : World) : Prop := ∃ a n c T', e = .returned (.slice a n c) ∧ OwnK kB 1 T' w' (.slice a n c) l ∧ Goes (· = 1) T w T' w'
theorem flat_snoc {α : Type} {f : α → List Nat} {l : List α} {k : Nat} {x : α} (h : l[k]? = some x) : (l.take (k + 1)).flatMap f = (l.take k).flatMap f ++ f x := by
  rw [List.take_add_one, h]
  simp
set_option maxHeartbeats 1000000 in
theorem appendNumbers_any (T : Nat → Nat) (w : World) (a : Option Addr) (m c : Nat) (pre : List Nat) (la : Option Addr) (ln lc : Nat) (ns : List Nat) (hown : OwnK kB 1 T w (.slice a m c) pre) (hn : Isl kU T w (la, ln, lc) ns) (hb : ∀ x ∈ ns, x < 18446744073709551616) (h40 : pre.length + 10 * ns.length ≤ 900000000000) (hlen : ln ≤ 1000000) :
    Calls Tryd.prog 35 #[.slice a m c, .slice la ln lc] w fun e w' => LaIs T w (pre ++ ns.flatMap num) e w' := by
  obtain ⟨iz, hiz, hz0, hz1, hz2⟩ := info_parts infoB
  have HO : Hid (OwnK kB 1 T w (.slice a m c) pre) := hown
  have HN : Hid (Isl kU T w (la, ln, lc) ns) := hn
  have HBB : Hid (∀ x ∈ ns, x < 18446744073709551616) := hb
  have HLN : Hid (ln = ns.length) := hn.1.2.1
  have H40 : Hid (pre.length + 10 * ns.length ≤ 900000000000) := h40
  clear hown hn hb h40
  go_enter Tryd.func35, Tryd.ntmps35
  go_wp2
  go_loopw [0, 9] (fun v i wr => ∃ (k : Nat) (T' : Nat → Nat) (a' : Option Addr) (m' c' : Nat), k ≤ ln ∧ v = .slice a' m' c' ∧ i = .int .i64 (k : Int) ∧ Hid (OwnK kB 1 T' wr (.slice a' m' c') (pre ++ (ns.take k).flatMap num) ∧ Goes (· = 1) T w T' wr)) (fun _ i _ => ln - (intOf i).toNat)
  case atStart => exact ⟨0, T, a, m, c, by omega, rfl, rfl, by simpa using HO.out, Goes.refl _ _ _⟩
  case round =>
    obtain ⟨k, T', a', m', c', hk, rfl, rfl, HX⟩ := hrel
    rename World => wr
    by_cases hlt : k < ln
    · have q1 : (k : Int) < (ln : Int) := by omega
      have hkn : k < ns.length := by rw [← HLN.out]; exact hlt
      obtain ⟨x, hx⟩ : ∃ x, ns[k]? = some x := ⟨_, List.getElem?_eq_getElem hkn⟩
      have hx64 := HBB.out x (List.mem_of_getElem? hx)
      have hIk := (HN.out.goes HX.out.2 (by decide)).1.1
      obtain ⟨b, off, e, hr⟩ := hIk (by rintro rfl; simp at hkn)
      have c0 := hr.2 k x hx 0 _ rfl
      have eo : off + k * kU.size + 0 = off + k := by show off + k * 1 + 0 = _; omega
      rw [eo] at c0
      dsimp only at e
      subst e
      have hbl := hr.1
      have HF : Hid ((ns.take (k + 1)).flatMap num = (ns.take k).flatMap num ++ num x) := flat_snoc hx
      have h10 := num_le10 hx64
      have hfl : ((ns.take k).flatMap num).length ≤ k * 10 := by
        have := flat_len (f := num) (c := 10) (ns.take k) (fun y hy => num_le10 (HBB.out y (List.mem_of_mem_take hy)))
        rw [List.length_take, Nat.min_eq_left (by omega)] at this
        exact this
      have h40 := H40.out
      have hpl : (pre ++ (ns.take k).flatMap num).length ≤ pre.length + k * 10 := by rw [List.length_append]; omega
      generalize (ns.take k).flatMap num = fl at *
      clear hx hIk hr eo
      go_wp2_with (first
        | (go_at_call 55; go_loud (refine (putUint_n none 0 0 [] x wr (IsB.nil _ _) (fun _ => rfl) (by simp) (by omega) rfl).mono ?_; rintro e w1 ⟨v1, rfl, ho1, hb1⟩; rw [List.nil_append] at ho1; obtain ⟨g1, c1, rfl, hg1, hgs1, hc1, hI1⟩ := ho1.isB; have HI1 : Hid (IsB w1 (some ⟨g1, 0, none⟩) (num x)) := hI1; have HO1 : Hid (OwnK kB 1 T' w1 (.slice a' m' c') (pre ++ fl) ∧ Goes (· = 1) T w T' w1) := ⟨HX.out.1.below hb1, HX.out.2.trans (Goes.below hb1)⟩; clear ho1 hb1 hI1))
        | (at_builtin; go_loud (refine wpList_appK kB _ (by rfl) (.tmp 13) (.tmp 15) 35 (by rfl) iz Tryd.underlying35 hiz hz0 hz1 hz2 1 T' (.slice a' m' c') (pre ++ fl) (by rfl) HO1.out.1 (some ⟨g1, 0, none⟩) (num x).length c1 (num x) (by rfl) rfl (by simp) (isK_isB HI1.out) (by omega) ?_; intro a2 c2 T2 w2 hown2 hg2; have HY : Hid (OwnK kB 1 T2 w2 (.slice a2 ((pre ++ fl).length + (num x).length) c2) (pre ++ fl ++ num x) ∧ Goes (· = 1) T w T2 w2) := ⟨hown2, HO1.out.2.trans hg2⟩; clear hown2 hg2)))
      go_roundw
      case rel => exact ⟨k + 1, T2, a2, _, c2, by omega, rfl, by go_num, by have h := HY.out.1; rw [List.length_append] at h; rw [HF.out, ← List.append_assoc]; exact h, HY.out.2⟩
      case measure => simp [intOf]; omega
    · obtain rfl : k = ln := by omega
      have q1 : ¬ (k : Int) < (k : Int) := by omega
      have HT : Hid (ns.take k = ns) := List.take_of_length_le (by rw [HLN.out]; exact Nat.le_refl _)
      go_wp2
      go_ret
      have hx := HX.out
      rw [HT.out] at hx
      exact ⟨a', m', c', T', rfl, hx⟩
set_option maxHeartbeats 1000000 in
theorem appendTexts_any (T : Nat → Nat) (w : World) (a : Option Addr) (m c : Nat) (pre : List Nat) (la : Option Addr) (ln lc : Nat) (ss : List ByteArray) (hown : OwnK kB 1 T w (.slice a m c) pre) (hn : Isl kT T w (la, ln, lc) ss) (hb : ∀ s ∈ ss, s.size ≤ 64) (h40 : pre.length + 74 * ss.length ≤ 900000000000) (hlen : ln ≤ 1000000) :
    Calls Tryd.prog 36 #[.slice a m c, .slice la ln lc] w fun e w' => LaIs T w (pre ++ ss.flatMap keyB) e w' := by
  obtain ⟨iz, hiz, hz0, hz1, hz2⟩ := info_parts infoB
  have HO : Hid (OwnK kB 1 T w (.slice a m c) pre) := hown
  have HN : Hid (Isl kT T w (la, ln, lc) ss) := hn
  have HBB : Hid (∀ s ∈ ss, s.size ≤ 64) := hb
  have HLN : Hid (ln = ss.length) := hn.1.2.1
  have H40 : Hid (pre.length + 74 * ss.length ≤ 900000000000) := h40
  clear hown hn hb h40
  go_enter Tryd.func36, Tryd.ntmps36
  go_wp2
  go_loopw [0, 9] (fun v i wr => ∃ (k : Nat) (T' : Nat → Nat) (a' : Option Addr) (m' c' : Nat), k ≤ ln ∧ v = .slice a' m' c' ∧ i = .int .i64 (k : Int) ∧ Hid (OwnK kB 1 T' wr (.slice a' m' c') (pre ++ (ss.take k).flatMap keyB) ∧ Goes (· = 1) T w T' wr)) (fun _ i _ => ln - (intOf i).toNat)
  case atStart => exact ⟨0, T, a, m, c, by omega, rfl, rfl, by simpa using HO.out, Goes.refl _ _ _⟩
  case round =>
    obtain ⟨k, T', a', m', c', hk, rfl, rfl, HX⟩ := hrel
    rename World => wr
    by_cases hlt : k < ln
    · have q1 : (k : Int) < (ln : Int) := by omega
      have hkn : k < ss.length := by rw [← HLN.out]; exact hlt
      obtain ⟨x, hx⟩ : ∃ x, ss[k]? = some x := ⟨_, List.getElem?_eq_getElem hkn⟩
      have hx64 := HBB.out x (List.mem_of_getElem? hx)
      have hIk := (HN.out.goes HX.out.2 (by decide)).1.1
      obtain ⟨b, off, e, hr⟩ := hIk (by rintro rfl; simp at hkn)
      have c0 := hr.2 k x hx 0 _ rfl
      have eo : off + k * kT.size + 0 = off + k := by show off + k * 1 + 0 = _; omega
      rw [eo] at c0
      dsimp only at e
      subst e
      have hbl := hr.1
      have HF : Hid ((ss.take (k + 1)).flatMap keyB = (ss.take k).flatMap keyB ++ keyB x) := flat_snoc hx
      have h10 := key_len hx64
      have hfl : ((ss.take k).flatMap keyB).length ≤ k * 74 := by
        have := flat_len (f := keyB) (c := 74) (ss.take k) (fun y hy => key_len (HBB.out y (List.mem_of_mem_take hy)))
        rw [List.length_take, Nat.min_eq_left (by omega)] at this
        exact this
      have h40 := H40.out
      have hpl : (pre ++ (ss.take k).flatMap keyB).length ≤ pre.length + k * 74 := by rw [List.length_append]; omega
      generalize (ss.take k).flatMap keyB = fl at *
      clear hx hIk hr eo
      go_wp2_with (first
        | (go_at_call 56; go_loud (refine (putText_any none 0 0 [] x wr (IsB.nil _ _) (fun _ => rfl) (by simp; omega) rfl).mono ?_; rintro e w1 ⟨v1, rfl, ho1, hb1⟩; rw [List.nil_append] at ho1; obtain ⟨g1, c1, rfl, hg1, hgs1, hc1, hI1⟩ := ho1.isB; have HI1 : Hid (IsB w1 (some ⟨g1, 0, none⟩) (keyB x)) := hI1; have HO1 : Hid (OwnK kB 1 T' w1 (.slice a' m' c') (pre ++ fl) ∧ Goes (· = 1) T w T' w1) := ⟨HX.out.1.below hb1, HX.out.2.trans (Goes.below hb1)⟩; clear ho1 hb1 hI1))
        | (at_builtin; go_loud (refine wpList_appK kB _ (by rfl) (.tmp 13) (.tmp 15) 35 (by rfl) iz Tryd.underlying35 hiz hz0 hz1 hz2 1 T' (.slice a' m' c') (pre ++ fl) (by rfl) HO1.out.1 (some ⟨g1, 0, none⟩) (keyB x).length c1 (keyB x) (by rfl) rfl (by simp) (isK_isB HI1.out) (by omega) ?_; intro a2 c2 T2 w2 hown2 hg2; have HY : Hid (OwnK kB 1 T2 w2 (.slice a2 ((pre ++ fl).length + (keyB x).length) c2) (pre ++ fl ++ keyB x) ∧ Goes (· = 1) T w T2 w2) := ⟨hown2, HO1.out.2.trans hg2⟩; clear hown2 hg2)))
      go_roundw
      case rel => exact ⟨k + 1, T2, a2, _, c2, by omega, rfl, by go_num, by have h := HY.out.1; rw [List.length_append] at h; rw [HF.out, ← List.append_assoc]; exact h, HY.out.2⟩
      case measure => simp [intOf]; omega
    · obtain rfl : k = ln := by omega
      have q1 : ¬ (k : Int) < (k : Int) := by omega
      have HT : Hid (ss.take k = ss) := List.take_of_length_le (by rw [HLN.out]; exact Nat.le_refl _)
      go_wp2
      go_ret
      have hx := HX.out
      rw [HT.out] at hx
      exact ⟨a', m', c', T', rfl, hx⟩
end Mnf
end Go.Proofs.YtjbnnhephagdmaaDoor
