import Derived.Test.YtkebbmdghnplmaaDoorQb2
namespace Go.Proofs.YtkebbmdghnplmaaDoor
namespace Qb
open Go.RowKit CMath Byt Laws Irw Crw Cod
set_option linter.unusedVariables false
set_option linter.unusedSimpArgs false
set_option maxRecDepth 20000

/-- Tags above the heap are 0. -/
def Hi (T : Nat → Nat) (w : World) : Prop := ∀ b, w.heap.size ≤ b → T b = 0
theorem Hi.goes {t : Nat → Prop} {T T' : Nat → Nat} {w w' : World} (h : Hi T w) (hg : Goes t T w T' w') : Hi T' w' := fun b hb => hg.high b hb (h b (Nat.le_trans hg.size hb))
theorem Hi.below {T : Nat → Nat} {w w' : World} (h : Hi T w) (hb : w.heap.size ≤ w'.heap.size) : Hi T w' := fun b hb' => h b (Nat.le_trans hb hb')
theorem put_nil (n : Nat) (w : World) (hn : n < 18446744073709551616) :
    Calls Tryd.prog 91 #[.slice none 0 0, .int .u64 (n : Int)] w fun e w' => ∃ g c, e = .returned (.slice (some ⟨g, 0, none⟩) (num n).length c) ∧ IsB w' (some ⟨g, 0, none⟩) (num n) ∧ Below w.heap.size w w' := by
  refine (putUint_n none 0 0 [] n w (IsB.nil _ _) (fun _ => rfl) (by simp) hn rfl).mono ?_
  rintro e w' ⟨v, rfl, ho, hb⟩
  obtain ⟨g, c, rfl, _, _, _, hi⟩ := ho.isB
  exact ⟨g, c, rfl, hi, hb⟩
theorem putText_nil (s : ByteArray) (w : World) (hn : s.size ≤ 1000000) :
    Calls Tryd.prog 93 #[.slice none 0 0, .string s] w fun e w' => ∃ g c, e = .returned (.slice (some ⟨g, 0, none⟩) (words (strB s)).length c) ∧ IsB w' (some ⟨g, 0, none⟩) (words (strB s)) ∧ Below w.heap.size w w' := by
  refine (putText_any none 0 0 [] s w (IsB.nil _ _) (fun _ => rfl) (by simp; omega) rfl).mono ?_
  rintro e w' ⟨v, rfl, ho, hb⟩
  obtain ⟨g, c, rfl, _, _, _, hi⟩ := ho.isB
  exact ⟨g, c, rfl, hi, hb⟩
theorem strB_drop (x : ByteArray) (s : Nat) (h : s ≤ x.size) : strB (x.extract s x.size) = (strB x).drop s := by
  unfold strB
  simp [ByteArray.data_extract, List.map_drop, List.map_take]
  rw [List.take_of_length_le (by simp)]
/-- A block that is not of those that turn. -/
theorem box_goes {t : Nat → Prop} {T T' : Nat → Nat} {w w' : World} (hg : Goes t T w T' w') {B : Nat} (hB : B < w.heap.size) (h0 : ¬ t (T B)) : ∀ j, w'.cell? ⟨B, j, none⟩ = w.cell? ⟨B, j, none⟩ := fun j => hg.cell hB h0

theorem wpList_app8n (N : Nat) (w : World) {ops : Array Oper} {rest : List Oper} {o : Oper} {a : Act} {Q : Exit → Act → World → Prop} (hgd : o.guard = none) (s x : Operand)
    (ho : o.op = .call { callee := .builtin .append, args := #[s, x], argTypes := #[22, 22] })
    (g : Nat) (T : Nat → Nat) (v : Value) (l : List Nat) (hs : a.eval s = v) (hown : OwnB g T w v l) (ao : Option Addr) (m c : Nat) (r : List Nat) (hx : a.eval x = .slice ao m c) (hm : m = r.length) (hn : ao = none → c = 0) (hr : IsB w ao r) (h40 : l.length + r.length ≤ 1000000000000) (hN : N = l.length + r.length)
    (h : ∀ a' c' T' w', OwnB g T' w' (.slice a' N c') (l ++ r) → Goes (· = g) T w T' w' → wpList Tryd.prog ops Q rest (a.put o.dst (.slice a' N c')) w') : wpList Tryd.prog ops Q (o :: rest) a w := by
  subst hN
  exact wpList_app8 w hgd s x ho g T v l hs hown ao m c r hx hm hn hr h40 h
theorem wpList_appSn (N : Nat) (w : World) {ops : Array Oper} {rest : List Oper} {o : Oper} {a : Act} {Q : Exit → Act → World → Prop} (hgd : o.guard = none) (s x : Operand)
    (ho : o.op = .call { callee := .builtin .append, args := #[s, x], argTypes := #[22, 9] })
    (g : Nat) (T : Nat → Nat) (v : Value) (l : List Nat) (hs : a.eval s = v) (hown : OwnB g T w v l) (y : ByteArray) (hx : a.eval x = .string y) (h40 : l.length + y.size ≤ 1000000000000) (hN : N = (l ++ strB y).length)
    (h : ∀ a' c' T' w', OwnB g T' w' (.slice a' N c') (l ++ strB y) → Goes (· = g) T w T' w' → wpList Tryd.prog ops Q rest (a.put o.dst (.slice a' N c')) w') : wpList Tryd.prog ops Q (o :: rest) a w := by
  subst hN
  exact wpList_appS w hgd s x ho g T v l hs hown y hx h40 h

/-- What a call leaves that lays bytes behind others. -/
def AppIs (t : Nat) (T : Nat → Nat) (w : World) (l : List Nat) (e : Ending) (w' : World) : Prop := ∃ v' T', e = .returned v' ∧ OwnB t T' w' v' l ∧ Goes (· = t) T w T' w'
/-- A box that stays. -/
structure Bx (t : Nat) (T : Nat → Nat) (w : World) (B : Nat) (arr : Array Value) : Prop where
  lt : B < w.heap.size
  tag : T B ≠ t
  cell : ∀ j, w.cell? ⟨B, j, none⟩ = arr[j]?
theorem Bx.goes {t : Nat} {T T' : Nat → Nat} {w w' : World} {B : Nat} {arr : Array Value} (h : Bx t T w B arr) (hg : Goes (· = t) T w T' w') : Bx t T' w' B arr :=
  ⟨Nat.lt_of_lt_of_le h.lt hg.size, by rw [hg.tag B h.lt h.tag]; exact h.tag, fun j => (hg.cell h.lt h.tag).trans (h.cell j)⟩
/-- Bytes that grow, and a box beside them. -/
structure PS (t : Nat) (T0 : Nat → Nat) (w0 : World) (B : Nat) (arr : Array Value) (T : Nat → Nat) (w : World) (v : Value) (l : List Nat) : Prop where
  own : OwnB t T w v l
  go : Goes (· = t) T0 w0 T w
  box : Bx t T w B arr
theorem PS.below {t : Nat} {T0 : Nat → Nat} {w0 : World} {B : Nat} {arr : Array Value} {T : Nat → Nat} {w w' : World} {v : Value} {l : List Nat} (h : PS t T0 w0 B arr T w v l) (hb : Below w.heap.size w w') : PS t T0 w0 B arr T w' v l :=
  ⟨h.own.below hb, h.go.trans (Goes.below hb), h.box.goes (Goes.below hb)⟩
theorem PS.app {t : Nat} {T0 : Nat → Nat} {w0 : World} {B : Nat} {arr : Array Value} {T T' : Nat → Nat} {w w' : World} {v v' : Value} {l l' : List Nat} (h : PS t T0 w0 B arr T w v l) (ho : OwnB t T' w' v' l') (hg : Goes (· = t) T w T' w') : PS t T0 w0 B arr T' w' v' l' :=
  ⟨ho, h.go.trans hg, h.box.goes hg⟩
set_option maxHeartbeats 2000000 in
theorem putEntry_any (t : Nat) (T : Nat → Nat) (v : Value) (pre : List Nat) (k : ByteArray) (s : Nat) (d : Bool) (x : ByteArray) (n : Nat) (w : World) (hown : OwnB t T w v pre) (hi : Hi T w) (ht : t ≠ 0) (hn : n ≤ k.size) (hk : k.size ≤ 1000000) (hx : x.size ≤ 1000000) (hs : s ≤ 72057594037927935) (hp : pre.length ≤ 100000000000) :
    Calls Tryd.prog 74 #[v, .agg #[.string k, .int .u64 (s : Int), .bool d, .string x], .int .i64 (n : Int)] w fun e w' => AppIs t T w (pre ++ entB n (k, (s : Int), d, x)) e w' := by
  obtain ⟨a0, c0, e0, hfm⟩ := hown.form
  clear hfm
  subst e0
  have HO : Hid (PS t T w w.heap.size #[.string k, .int .u64 (s : Int), .bool d, .string x] T (w.alloc (.cells #[.string k, .int .u64 (s : Int), .bool d, .string x] 30)) (.slice a0 pre.length c0) pre) :=
    ⟨hown.below ((Below.refl _ _).alloc (Nat.le_refl _) _), Goes.below ((Below.refl _ _).alloc (Nat.le_refl _) _), by simp, by rw [hi _ (Nat.le_refl _)]; exact fun h => ht h.symm, fun j => by rw [World.cell?_alloc_at _ _ _ _ rfl]⟩
  have hrest : strB (k.extract n k.size) = (kB (k, (s : Int), d, x)).drop n := strB_drop k n hn
  have hrl : (k.extract n k.size).size = k.size - n := by rw [← strB_length, hrest]; unfold kB; rw [List.length_drop, strB_length]
  have hkl : (kB (k, (s : Int), d, x)).length = k.size := strB_length k
  have q1 : (n : Int) ≤ (k.size : Int) := by omega
  have n1 := num_le10 (show n < 18446744073709551616 by omega)
  have n2 := num_le10 (show k.size - n < 18446744073709551616 by omega)
  have htag : tag (k, (s : Int), d, x) < 18446744073709551616 := by unfold tag; simp only [Int.toNat_natCast]; split <;> omega
  have n3 := num_le10 htag
  have HR : Hid (entB n (k, (s : Int), d, x) = num n ++ (num (k.size - n) ++ (num (tag (k, (s : Int), d, x)) ++ (strB (k.extract n k.size) ++ (if d then [] else words (strB x)))))) := by
    show _ = _
    unfold entB
    rw [hrest, hkl]
    rfl
  rw [HR.out]
  clear hrest hkl hown HR
  generalize hTg : tag (k, (s : Int), d, x) = tg at *
  have HTG : Hid (tag (k, (s : Int), d, x) = tg) := hTg
  clear hTg

  go_enter Tryd.func74, Tryd.ntmps74
  go_wp2_with fail
  refine (put_nil (n) _ (by omega)).mono ?_
  rintro e wA1 ⟨gA1, cA1, rfl, hiA1, hbA1⟩
  have HA1 : Hid (PS t T w w.heap.size #[.string k, .int .u64 (s : Int), .bool d, .string x] T wA1 _ (pre) ∧ IsB wA1 (some ⟨gA1, 0, none⟩) (num (n))) := ⟨HO.out.below hbA1, hiA1⟩
  clear hiA1 hbA1
  go_wp2_with (at_builtin; go_loud (refine wpList_app8n (pre.length + (num n).length) _ (by rfl) (.tmp 12) (.tmp 15) (by rfl) t T _ (pre) (by rfl) HA1.out.1.own (some ⟨gA1, 0, none⟩) _ cA1 (num (n)) (by rfl) rfl (by simp) HA1.out.2 (by first | omega | (simp only [List.length_append]; omega)) (by first | rfl | (simp only [List.length_append]; done) | (simp only [List.length_append]; omega)) ?_; intro a1 c1 T1 w1 ho1 hg1; have HP1 : Hid (PS t T w w.heap.size #[.string k, .int .u64 (s : Int), .bool d, .string x] T1 w1 _ (pre ++ num (n))) := HA1.out.1.app ho1 hg1; have b10 : w1.cell? ⟨w.heap.size, 0, none⟩ = some (.string k) := HP1.out.box.cell 0; have b11 : w1.cell? ⟨w.heap.size, 1, none⟩ = some (.int .u64 (s : Int)) := HP1.out.box.cell 1; have b12 : w1.cell? ⟨w.heap.size, 2, none⟩ = some (.bool d) := HP1.out.box.cell 2; have b13 : w1.cell? ⟨w.heap.size, 3, none⟩ = some (.string x) := HP1.out.box.cell 3; clear ho1 hg1 HA1))
  clear HO b10 b11 b12 b13
  refine (put_nil (k.size - n) _ (by omega)).mono ?_
  rintro e wA2 ⟨gA2, cA2, rfl, hiA2, hbA2⟩
  have HA2 : Hid (PS t T w w.heap.size #[.string k, .int .u64 (s : Int), .bool d, .string x] T1 wA2 _ (pre ++ num n) ∧ IsB wA2 (some ⟨gA2, 0, none⟩) (num (k.size - n))) := ⟨HP1.out.below hbA2, hiA2⟩
  clear hiA2 hbA2
  go_wp2_with (at_builtin; go_loud (refine wpList_app8n (pre.length + (num n).length + (num (k.size - n)).length) _ (by rfl) (.tmp 17) (.tmp 21) (by rfl) t T1 _ (pre ++ num n) (by rfl) HA2.out.1.own (some ⟨gA2, 0, none⟩) _ cA2 (num (k.size - n)) (by rfl) rfl (by simp) HA2.out.2 (by first | omega | (simp only [List.length_append]; omega)) (by first | rfl | (simp only [List.length_append]; done) | (simp only [List.length_append]; omega)) ?_; intro a2 c2 T2 w2 ho2 hg2; have HP2 : Hid (PS t T w w.heap.size #[.string k, .int .u64 (s : Int), .bool d, .string x] T2 w2 _ (pre ++ num n ++ num (k.size - n))) := HA2.out.1.app ho2 hg2; have b20 : w2.cell? ⟨w.heap.size, 0, none⟩ = some (.string k) := HP2.out.box.cell 0; have b21 : w2.cell? ⟨w.heap.size, 1, none⟩ = some (.int .u64 (s : Int)) := HP2.out.box.cell 1; have b22 : w2.cell? ⟨w.heap.size, 2, none⟩ = some (.bool d) := HP2.out.box.cell 2; have b23 : w2.cell? ⟨w.heap.size, 3, none⟩ = some (.string x) := HP2.out.box.cell 3; clear ho2 hg2 HA2))
  clear HP1
  refine (tagOf_any k s d x _ hs).mono ?_
  rintro e wB ⟨rfl, hbB⟩
  have HPB : Hid (PS t T w w.heap.size #[.string k, .int .u64 (s : Int), .bool d, .string x] T2 wB _ (pre ++ num n ++ num (k.size - n))) := HP2.out.below hbB
  rw [HTG.out]
  clear hbB HP2 b20 b21 b22 b23
  go_wp2_with fail
  refine (put_nil (tg) _ (by omega)).mono ?_
  rintro e wA3 ⟨gA3, cA3, rfl, hiA3, hbA3⟩
  have HA3 : Hid (PS t T w w.heap.size #[.string k, .int .u64 (s : Int), .bool d, .string x] T2 wA3 _ (pre ++ num n ++ num (k.size - n)) ∧ IsB wA3 (some ⟨gA3, 0, none⟩) (num (tg))) := ⟨HPB.out.below hbA3, hiA3⟩
  clear hiA3 hbA3
  go_wp2_with (first | (at_builtin; refine wpList_appSn (pre.length + (num n).length + (num (k.size - n)).length + (num tg).length + (k.size - n)) _ (by rfl) (.tmp 28) (.tmp 29) (by rfl) t T3 _ (pre ++ num n ++ num (k.size - n) ++ num tg) (by rfl) HP3.out.own (k.extract n k.size) (by rfl) (by simp only [List.length_append]; rw [hrl]; omega) (by simp only [List.length_append, strB_length]; rw [hrl]) ?_; intro a4 c4 T4 w4 ho4 hg4; have HP4 : Hid (PS t T w w.heap.size #[.string k, .int .u64 (s : Int), .bool d, .string x] T4 w4 _ (pre ++ num n ++ num (k.size - n) ++ num tg ++ strB (k.extract n k.size))) := HP3.out.app ho4 hg4; have b42 : w4.cell? ⟨w.heap.size, 2, none⟩ = some (.bool d) := HP4.out.box.cell 2; have b43 : w4.cell? ⟨w.heap.size, 3, none⟩ = some (.string x) := HP4.out.box.cell 3; clear ho4 hg4 HP3 b30 b31 b32 b33) | (at_builtin; (refine wpList_app8n (pre.length + (num n).length + (num (k.size - n)).length + (num tg).length) _ (by rfl) (.tmp 23) (.tmp 26) (by rfl) t T2 _ (pre ++ num n ++ num (k.size - n)) (by rfl) HA3.out.1.own (some ⟨gA3, 0, none⟩) _ cA3 (num (tg)) (by rfl) rfl (by simp) HA3.out.2 (by first | omega | (simp only [List.length_append]; omega)) (by first | rfl | (simp only [List.length_append]; done) | (simp only [List.length_append]; omega)) ?_; intro a3 c3 T3 w3 ho3 hg3; have HP3 : Hid (PS t T w w.heap.size #[.string k, .int .u64 (s : Int), .bool d, .string x] T3 w3 _ (pre ++ num n ++ num (k.size - n) ++ num (tg))) := HA3.out.1.app ho3 hg3; have b30 : w3.cell? ⟨w.heap.size, 0, none⟩ = some (.string k) := HP3.out.box.cell 0; have b31 : w3.cell? ⟨w.heap.size, 1, none⟩ = some (.int .u64 (s : Int)) := HP3.out.box.cell 1; have b32 : w3.cell? ⟨w.heap.size, 2, none⟩ = some (.bool d) := HP3.out.box.cell 2; have b33 : w3.cell? ⟨w.heap.size, 3, none⟩ = some (.string x) := HP3.out.box.cell 3; clear ho3 hg3 HA3)))
  · have hd : d = true := by assumption
    subst hd
    go_ret
    have h4 := HP4.out.own
    simp only [List.append_assoc] at h4
    exact ⟨_, T4, rfl, by simpa using h4, HP4.out.go⟩
  · have hd : d = false := by assumption
    subst hd
    have hw10 : (words (strB x)).length ≤ 1000010 := by
      unfold words
      have := num_le10 (show (strB x).length < 18446744073709551616 by rw [strB_length]; omega)
      rw [List.length_append, strB_length]
      rw [strB_length] at this
      omega
    refine (putText_nil x _ hx).mono ?_
    rintro e wC ⟨gC, cC, rfl, hiC, hbC⟩
    have HC : Hid (PS t T w w.heap.size #[.string k, .int .u64 (s : Int), .bool false, .string x] T4 wC _ (pre ++ num n ++ num (k.size - n) ++ num tg ++ strB (k.extract n k.size)) ∧ IsB wC (some ⟨gC, 0, none⟩) (words (strB x))) := ⟨HP4.out.below hbC, hiC⟩
    clear hiC hbC HP4 b42 b43
    go_wp2_with (at_builtin; go_loud (refine wpList_app8n (pre.length + (num n).length + (num (k.size - n)).length + (num tg).length + (k.size - n) + (words (strB x)).length) _ (by rfl) (.tmp 34) (.tmp 37) (by rfl) t T4 _ (pre ++ num n ++ num (k.size - n) ++ num tg ++ strB (k.extract n k.size)) (by rfl) HC.out.1.own (some ⟨gC, 0, none⟩) _ cC (words (strB x)) (by rfl) rfl (by simp) HC.out.2 (by simp only [List.length_append, strB_length]; rw [hrl]; omega) (by simp only [List.length_append, strB_length]; rw [hrl]) ?_; intro a5 c5 T5 w5 ho5 hg5; have HP5 : Hid (PS t T w w.heap.size #[.string k, .int .u64 (s : Int), .bool false, .string x] T5 w5 _ (pre ++ num n ++ num (k.size - n) ++ num tg ++ strB (k.extract n k.size) ++ words (strB x))) := HC.out.1.app ho5 hg5; clear ho5 hg5 HC))
    go_ret
    have h5 := HP5.out.own
    simp only [List.append_assoc] at h5
    exact ⟨_, T5, rfl, by simpa using h5, HP5.out.go⟩

end Qb
end Go.Proofs.YtkebbmdghnplmaaDoor

