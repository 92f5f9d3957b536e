import Derived.Test.YtnhhalabmmcemaaDoorQb2
import Derived.Deep.RegionHeld3
import Derived.Lib.SmallJoins
namespace Go.Proofs.YtnhhalabmmcemaaDoor
namespace Qb
open Go.RowKit CMath Byt Laws Irw Crw Cod
set_option linter.unusedVariables false
set_option linter.unusedSimpArgs false
set_option maxRecDepth 20000

/-- Tags above the heap are 0. -/
def Hi (T : Nat → Nat) (w : World) : Prop := ∀ b, w.heap.size ≤ b → T b = 0
theorem Hi.goes {t : Nat → Prop} {T T' : Nat → Nat} {w w' : World} (h : Hi T w) (hg : Goes t T w T' w') : Hi T' w' := fun b hb => hg.high b hb (h b (Nat.le_trans hg.size hb))
theorem Hi.below {T : Nat → Nat} {w w' : World} (h : Hi T w) (hb : w.heap.size ≤ w'.heap.size) : Hi T w' := fun b hb' => h b (Nat.le_trans hb hb')
theorem put_nil (n : Nat) (w : World) (hn : n < 18446744073709551616) :
    Calls Tryd.prog 64 #[.slice none 0 0, .int .u64 (n : Int)] w fun e w' => ∃ g c, e = .returned (.slice (some ⟨g, 0, none⟩) (num n).length c) ∧ IsB w' (some ⟨g, 0, none⟩) (num n) ∧ Below w.heap.size w w' := by
  refine (putUint_n none 0 0 [] n w (IsB.nil _ _) (fun _ => rfl) (by simp) hn rfl).mono ?_
  rintro e w' ⟨v, rfl, ho, hb⟩
  obtain ⟨g, c, rfl, _, _, _, hi⟩ := ho.isB
  exact ⟨g, c, rfl, hi, hb⟩
theorem putText_nil (s : ByteArray) (w : World) (hn : s.size ≤ 1000000) :
    Calls Tryd.prog 65 #[.slice none 0 0, .string s] w fun e w' => ∃ g c, e = .returned (.slice (some ⟨g, 0, none⟩) (words (strB s)).length c) ∧ IsB w' (some ⟨g, 0, none⟩) (words (strB s)) ∧ Below w.heap.size w w' := by
  refine (putText_any none 0 0 [] s w (IsB.nil _ _) (fun _ => rfl) (by simp; omega) rfl).mono ?_
  rintro e w' ⟨v, rfl, ho, hb⟩
  obtain ⟨g, c, rfl, _, _, _, hi⟩ := ho.isB
  exact ⟨g, c, rfl, hi, hb⟩
theorem strB_drop (x : ByteArray) (s : Nat) (h : s ≤ x.size) : strB (x.extract s x.size) = (strB x).drop s := by
  unfold strB
  simp [ByteArray.data_extract, List.map_drop, List.map_take]
  rw [List.take_of_length_le (by simp)]
/-- A block that is not of those that turn. -/
theorem box_goes {t : Nat → Prop} {T T' : Nat → Nat} {w w' : World} (hg : Goes t T w T' w') {B : Nat} (hB : B < w.heap.size) (h0 : ¬ t (T B)) : ∀ j, w'.cell? ⟨B, j, none⟩ = w.cell? ⟨B, j, none⟩ := fun j => hg.cell hB h0

theorem wpList_app8n (N : Nat) (w : World) {ops : Array Oper} {rest : List Oper} {o : Oper} {a : Act} {Q : Exit → Act → World → Prop} (hgd : o.guard = none) (s x : Operand)
    (ho : o.op = .call { callee := .builtin .append, args := #[s, x], argTypes := #[25, 25] })
    (g : Nat) (T : Nat → Nat) (v : Value) (l : List Nat) (hs : a.eval s = v) (hown : OwnB g T w v l) (ao : Option Addr) (m c : Nat) (r : List Nat) (hx : a.eval x = .slice ao m c) (hm : m = r.length) (hn : ao = none → c = 0) (hr : IsB w ao r) (h40 : l.length + r.length ≤ 1000000000000) (hN : N = l.length + r.length)
    (h : ∀ a' c' T' w', OwnB g T' w' (.slice a' N c') (l ++ r) → Goes (· = g) T w T' w' → wpList Tryd.prog ops Q rest (a.put o.dst (.slice a' N c')) w') : wpList Tryd.prog ops Q (o :: rest) a w := by
  subst hN
  exact wpList_app8 w hgd s x ho g T v l hs hown ao m c r hx hm hn hr h40 h
theorem wpList_appSn (N : Nat) (w : World) {ops : Array Oper} {rest : List Oper} {o : Oper} {a : Act} {Q : Exit → Act → World → Prop} (hgd : o.guard = none) (s x : Operand)
    (ho : o.op = .call { callee := .builtin .append, args := #[s, x], argTypes := #[25, 9] })
    (g : Nat) (T : Nat → Nat) (v : Value) (l : List Nat) (hs : a.eval s = v) (hown : OwnB g T w v l) (y : ByteArray) (hx : a.eval x = .string y) (h40 : l.length + y.size ≤ 1000000000000) (hN : N = (l ++ strB y).length)
    (h : ∀ a' c' T' w', OwnB g T' w' (.slice a' N c') (l ++ strB y) → Goes (· = g) T w T' w' → wpList Tryd.prog ops Q rest (a.put o.dst (.slice a' N c')) w') : wpList Tryd.prog ops Q (o :: rest) a w := by
  subst hN
  exact wpList_appS w hgd s x ho g T v l hs hown y hx h40 h

/-- What a call leaves that lays bytes behind others. -/
def AppIs (t : Nat) (T : Nat → Nat) (w : World) (l : List Nat) (e : Ending) (w' : World) : Prop := ∃ v' T', e = .returned v' ∧ OwnB t T' w' v' l ∧ Goes (· = t) T w T' w'
/-- A box that stays. -/
structure Bx (t : Nat) (T : Nat → Nat) (w : World) (B : Nat) (arr : Array Value) : Prop where
  lt : B < w.heap.size
  tag : T B ≠ t
  cell : ∀ j, w.cell? ⟨B, j, none⟩ = arr[j]?
theorem Bx.goes {t : Nat} {T T' : Nat → Nat} {w w' : World} {B : Nat} {arr : Array Value} (h : Bx t T w B arr) (hg : Goes (· = t) T w T' w') : Bx t T' w' B arr :=
  ⟨Nat.lt_of_lt_of_le h.lt hg.size, by rw [hg.tag B h.lt h.tag]; exact h.tag, fun j => (hg.cell h.lt h.tag).trans (h.cell j)⟩
/-- Bytes that grow, and a box beside them. -/
structure PS (t : Nat) (T0 : Nat → Nat) (w0 : World) (B : Nat) (arr : Array Value) (T : Nat → Nat) (w : World) (v : Value) (l : List Nat) : Prop where
  own : OwnB t T w v l
  go : Goes (· = t) T0 w0 T w
  box : Bx t T w B arr
theorem PS.below {t : Nat} {T0 : Nat → Nat} {w0 : World} {B : Nat} {arr : Array Value} {T : Nat → Nat} {w w' : World} {v : Value} {l : List Nat} (h : PS t T0 w0 B arr T w v l) (hb : Below w.heap.size w w') : PS t T0 w0 B arr T w' v l :=
  ⟨h.own.below hb, h.go.trans (Goes.below hb), h.box.goes (Goes.below hb)⟩
theorem PS.app {t : Nat} {T0 : Nat → Nat} {w0 : World} {B : Nat} {arr : Array Value} {T T' : Nat → Nat} {w w' : World} {v v' : Value} {l l' : List Nat} (h : PS t T0 w0 B arr T w v l) (ho : OwnB t T' w' v' l') (hg : Goes (· = t) T w T' w') : PS t T0 w0 B arr T' w' v' l' :=
  ⟨ho, h.go.trans hg, h.box.goes hg⟩
set_option maxHeartbeats 2000000 in
theorem putEntry_any (t : Nat) (T : Nat → Nat) (v : Value) (pre : List Nat) (k : ByteArray) (s : Nat) (d : Bool) (x : ByteArray) (n : Nat) (w : World) (hown : OwnB t T w v pre) (hi : Hi T w) (ht : t ≠ 0) (hn : n ≤ k.size) (hk : k.size ≤ 1000000) (hx : x.size ≤ 1000000) (hs : s ≤ 72057594037927935) (hp : pre.length ≤ 100000000000) :
    Calls Tryd.prog 81 #[v, .agg #[.string k, .int .u64 (s : Int), .bool d, .string x], .int .i64 (n : Int)] w fun e w' => AppIs t T w (pre ++ entB n (k, (s : Int), d, x)) e w' := by
  obtain ⟨a0, c0, e0, hfm⟩ := hown.form
  clear hfm
  subst e0
  have HO : Hid (PS t T w w.heap.size #[.string k, .int .u64 (s : Int), .bool d, .string x] T (w.alloc (.cells #[.string k, .int .u64 (s : Int), .bool d, .string x] 43)) (.slice a0 pre.length c0) pre) :=
    ⟨hown.below ((Below.refl _ _).alloc (Nat.le_refl _) _), Goes.below ((Below.refl _ _).alloc (Nat.le_refl _) _), by simp, by rw [hi _ (Nat.le_refl _)]; exact fun h => ht h.symm, fun j => by rw [World.cell?_alloc_at _ _ _ _ rfl]⟩
  have hrest : strB (k.extract n k.size) = (kB (k, (s : Int), d, x)).drop n := strB_drop k n hn
  have hrl : (k.extract n k.size).size = k.size - n := by rw [← strB_length, hrest]; unfold kB; rw [List.length_drop, strB_length]
  have hkl : (kB (k, (s : Int), d, x)).length = k.size := strB_length k
  have q1 : (n : Int) ≤ (k.size : Int) := by omega
  have n1 := num_le10 (show n < 18446744073709551616 by omega)
  have n2 := num_le10 (show k.size - n < 18446744073709551616 by omega)
  have htag : tag (k, (s : Int), d, x) < 18446744073709551616 := by unfold tag; simp only [Int.toNat_natCast]; split <;> omega
  have n3 := num_le10 htag
  have HR : Hid (entB n (k, (s : Int), d, x) = num n ++ (num (k.size - n) ++ (num (tag (k, (s : Int), d, x)) ++ (strB (k.extract n k.size) ++ (if d then [] else words (strB x)))))) := by
    show _ = _
    unfold entB
    rw [hrest, hkl]
    rfl
  rw [HR.out]
  clear hrest hkl hown HR
  generalize hTg : tag (k, (s : Int), d, x) = tg at *
  have HTG : Hid (tag (k, (s : Int), d, x) = tg) := hTg
  clear hTg

  go_enter Tryd.func81, Tryd.ntmps81
  go_wp2_with fail
  refine (put_nil (n) _ (by omega)).mono ?_
  rintro e wA1 ⟨gA1, cA1, rfl, hiA1, hbA1⟩
  have HA1 : Hid (PS t T w w.heap.size #[.string k, .int .u64 (s : Int), .bool d, .string x] T wA1 _ (pre) ∧ IsB wA1 (some ⟨gA1, 0, none⟩) (num (n))) := ⟨HO.out.below hbA1, hiA1⟩
  clear hiA1 hbA1
  go_wp2_with (at_builtin; go_loud (refine wpList_app8n (pre.length + (num n).length) _ (by rfl) (.tmp 12) (.tmp 15) (by rfl) t T _ (pre) (by rfl) HA1.out.1.own (some ⟨gA1, 0, none⟩) _ cA1 (num (n)) (by rfl) rfl (by simp) HA1.out.2 (by first | omega | (simp only [List.length_append]; omega)) (by first | rfl | (simp only [List.length_append]; done) | (simp only [List.length_append]; omega)) ?_; intro a1 c1 T1 w1 ho1 hg1; have HP1 : Hid (PS t T w w.heap.size #[.string k, .int .u64 (s : Int), .bool d, .string x] T1 w1 _ (pre ++ num (n))) := HA1.out.1.app ho1 hg1; have b10 : w1.cell? ⟨w.heap.size, 0, none⟩ = some (.string k) := HP1.out.box.cell 0; have b11 : w1.cell? ⟨w.heap.size, 1, none⟩ = some (.int .u64 (s : Int)) := HP1.out.box.cell 1; have b12 : w1.cell? ⟨w.heap.size, 2, none⟩ = some (.bool d) := HP1.out.box.cell 2; have b13 : w1.cell? ⟨w.heap.size, 3, none⟩ = some (.string x) := HP1.out.box.cell 3; clear ho1 hg1 HA1))
  clear HO b10 b11 b12 b13
  refine (put_nil (k.size - n) _ (by omega)).mono ?_
  rintro e wA2 ⟨gA2, cA2, rfl, hiA2, hbA2⟩
  have HA2 : Hid (PS t T w w.heap.size #[.string k, .int .u64 (s : Int), .bool d, .string x] T1 wA2 _ (pre ++ num n) ∧ IsB wA2 (some ⟨gA2, 0, none⟩) (num (k.size - n))) := ⟨HP1.out.below hbA2, hiA2⟩
  clear hiA2 hbA2
  go_wp2_with (at_builtin; go_loud (refine wpList_app8n (pre.length + (num n).length + (num (k.size - n)).length) _ (by rfl) (.tmp 17) (.tmp 21) (by rfl) t T1 _ (pre ++ num n) (by rfl) HA2.out.1.own (some ⟨gA2, 0, none⟩) _ cA2 (num (k.size - n)) (by rfl) rfl (by simp) HA2.out.2 (by first | omega | (simp only [List.length_append]; omega)) (by first | rfl | (simp only [List.length_append]; done) | (simp only [List.length_append]; omega)) ?_; intro a2 c2 T2 w2 ho2 hg2; have HP2 : Hid (PS t T w w.heap.size #[.string k, .int .u64 (s : Int), .bool d, .string x] T2 w2 _ (pre ++ num n ++ num (k.size - n))) := HA2.out.1.app ho2 hg2; have b20 : w2.cell? ⟨w.heap.size, 0, none⟩ = some (.string k) := HP2.out.box.cell 0; have b21 : w2.cell? ⟨w.heap.size, 1, none⟩ = some (.int .u64 (s : Int)) := HP2.out.box.cell 1; have b22 : w2.cell? ⟨w.heap.size, 2, none⟩ = some (.bool d) := HP2.out.box.cell 2; have b23 : w2.cell? ⟨w.heap.size, 3, none⟩ = some (.string x) := HP2.out.box.cell 3; clear ho2 hg2 HA2))
  clear HP1
  refine (tagOf_any k s d x _ hs).mono ?_
  rintro e wB ⟨rfl, hbB⟩
  have HPB : Hid (PS t T w w.heap.size #[.string k, .int .u64 (s : Int), .bool d, .string x] T2 wB _ (pre ++ num n ++ num (k.size - n))) := HP2.out.below hbB
  rw [HTG.out]
  clear hbB HP2 b20 b21 b22 b23
  go_wp2_with fail
  refine (put_nil (tg) _ (by omega)).mono ?_
  rintro e wA3 ⟨gA3, cA3, rfl, hiA3, hbA3⟩
  have HA3 : Hid (PS t T w w.heap.size #[.string k, .int .u64 (s : Int), .bool d, .string x] T2 wA3 _ (pre ++ num n ++ num (k.size - n)) ∧ IsB wA3 (some ⟨gA3, 0, none⟩) (num (tg))) := ⟨HPB.out.below hbA3, hiA3⟩
  clear hiA3 hbA3
  go_wp2_with (first | (at_builtin; refine wpList_appSn (pre.length + (num n).length + (num (k.size - n)).length + (num tg).length + (k.size - n)) _ (by rfl) (.tmp 28) (.tmp 29) (by rfl) t T3 _ (pre ++ num n ++ num (k.size - n) ++ num tg) (by rfl) HP3.out.own (k.extract n k.size) (by rfl) (by simp only [List.length_append]; rw [hrl]; omega) (by simp only [List.length_append, strB_length]; rw [hrl]) ?_; intro a4 c4 T4 w4 ho4 hg4; have HP4 : Hid (PS t T w w.heap.size #[.string k, .int .u64 (s : Int), .bool d, .string x] T4 w4 _ (pre ++ num n ++ num (k.size - n) ++ num tg ++ strB (k.extract n k.size))) := HP3.out.app ho4 hg4; have b42 : w4.cell? ⟨w.heap.size, 2, none⟩ = some (.bool d) := HP4.out.box.cell 2; have b43 : w4.cell? ⟨w.heap.size, 3, none⟩ = some (.string x) := HP4.out.box.cell 3; clear ho4 hg4 HP3 b30 b31 b32 b33) | (at_builtin; (refine wpList_app8n (pre.length + (num n).length + (num (k.size - n)).length + (num tg).length) _ (by rfl) (.tmp 23) (.tmp 26) (by rfl) t T2 _ (pre ++ num n ++ num (k.size - n)) (by rfl) HA3.out.1.own (some ⟨gA3, 0, none⟩) _ cA3 (num (tg)) (by rfl) rfl (by simp) HA3.out.2 (by first | omega | (simp only [List.length_append]; omega)) (by first | rfl | (simp only [List.length_append]; done) | (simp only [List.length_append]; omega)) ?_; intro a3 c3 T3 w3 ho3 hg3; have HP3 : Hid (PS t T w w.heap.size #[.string k, .int .u64 (s : Int), .bool d, .string x] T3 w3 _ (pre ++ num n ++ num (k.size - n) ++ num (tg))) := HA3.out.1.app ho3 hg3; have b30 : w3.cell? ⟨w.heap.size, 0, none⟩ = some (.string k) := HP3.out.box.cell 0; have b31 : w3.cell? ⟨w.heap.size, 1, none⟩ = some (.int .u64 (s : Int)) := HP3.out.box.cell 1; have b32 : w3.cell? ⟨w.heap.size, 2, none⟩ = some (.bool d) := HP3.out.box.cell 2; have b33 : w3.cell? ⟨w.heap.size, 3, none⟩ = some (.string x) := HP3.out.box.cell 3; clear ho3 hg3 HA3)))
  · have hd : d = true := by assumption
    subst hd
    go_ret
    have h4 := HP4.out.own
    simp only [List.append_assoc] at h4
    exact ⟨_, T4, rfl, by simpa using h4, HP4.out.go⟩
  · have hd : d = false := by assumption
    subst hd
    have hw10 : (words (strB x)).length ≤ 1000010 := by
      unfold words
      have := num_le10 (show (strB x).length < 18446744073709551616 by rw [strB_length]; omega)
      rw [List.length_append, strB_length]
      rw [strB_length] at this
      omega
    refine (putText_nil x _ hx).mono ?_
    rintro e wC ⟨gC, cC, rfl, hiC, hbC⟩
    have HC : Hid (PS t T w w.heap.size #[.string k, .int .u64 (s : Int), .bool false, .string x] T4 wC _ (pre ++ num n ++ num (k.size - n) ++ num tg ++ strB (k.extract n k.size)) ∧ IsB wC (some ⟨gC, 0, none⟩) (words (strB x))) := ⟨HP4.out.below hbC, hiC⟩
    clear hiC hbC HP4 b42 b43
    go_wp2_with (at_builtin; go_loud (refine wpList_app8n (pre.length + (num n).length + (num (k.size - n)).length + (num tg).length + (k.size - n) + (words (strB x)).length) _ (by rfl) (.tmp 34) (.tmp 37) (by rfl) t T4 _ (pre ++ num n ++ num (k.size - n) ++ num tg ++ strB (k.extract n k.size)) (by rfl) HC.out.1.own (some ⟨gC, 0, none⟩) _ cC (words (strB x)) (by rfl) rfl (by simp) HC.out.2 (by simp only [List.length_append, strB_length]; rw [hrl]; omega) (by simp only [List.length_append, strB_length]; rw [hrl]) ?_; intro a5 c5 T5 w5 ho5 hg5; have HP5 : Hid (PS t T w w.heap.size #[.string k, .int .u64 (s : Int), .bool false, .string x] T5 w5 _ (pre ++ num n ++ num (k.size - n) ++ num tg ++ strB (k.extract n k.size) ++ words (strB x))) := HC.out.1.app ho5 hg5; clear ho5 hg5 HC))
    go_ret
    have h5 := HP5.out.own
    simp only [List.append_assoc] at h5
    exact ⟨_, T5, rfl, by simpa using h5, HP5.out.go⟩

end Qb
end Go.Proofs.YtnhhalabmmcemaaDoor
namespace Go.Proofs.YtnhhalabmmcemaaDoor
namespace Qb
open Go.RowKit CMath Byt Laws Irw Crw Cod
set_option linter.unusedVariables false
set_option linter.unusedSimpArgs false
set_option maxRecDepth 20000

/-- The tags of a maker. -/
def Mk (t : Nat) : Nat → Prop := fun x => x = t ∨ x = t + 1 ∨ x = t + 2
/-- A maker as it lies: tag t itself, t + 1 its entries, t + 2 its places. -/
structure MakerAt (t : Nat) (T : Nat → Nat) (w : World) (M : Nat) (r : Int) (S : St) : Prop where
  lt : M < w.heap.size
  tag : T M = t
  c0 : w.cell? ⟨M, 0, none⟩ = some (.int .i64 r)
  c1 : w.cell? ⟨M, 1, none⟩ = some (.int .i64 (S.n : Int))
  c2 : w.cell? ⟨M, 2, none⟩ = some (.string S.last)
  c3 : ∃ v, w.cell? ⟨M, 3, none⟩ = some v ∧ OwnB (t + 1) T w v S.b
  c4 : ∃ v, w.cell? ⟨M, 4, none⟩ = some v ∧ OwnB (t + 2) T w v S.p
  fz : ∀ j, w.frozen? ⟨M, j, none⟩ = false
  last : S.last.size ≤ 64
theorem MakerAt.goes {t : Nat} {u : Nat → Prop} {T T' : Nat → Nat} {w w' : World} {M : Nat} {r : Int} {S : St} (p : MakerAt t T w M r S) (hg : Goes u T w T' w') (h0 : ¬ u t) (h1 : ¬ u (t + 1)) (h2 : ¬ u (t + 2)) : MakerAt t T' w' M r S := by
  have e : ¬ u (T M) := by rw [p.tag]; exact h0
  obtain ⟨v3, hv3, ho3⟩ := p.c3
  obtain ⟨v4, hv4, ho4⟩ := p.c4
  exact ⟨Nat.lt_of_lt_of_le p.lt hg.size, (hg.tag M p.lt e).trans p.tag, (hg.cell p.lt e).trans p.c0, (hg.cell p.lt e).trans p.c1, (hg.cell p.lt e).trans p.c2, ⟨v3, (hg.cell p.lt e).trans hv3, ho3.goes hg h1⟩, ⟨v4, (hg.cell p.lt e).trans hv4, ho4.goes hg h2⟩, fun j => (World.frozen?_of_block (a := ⟨M, j, none⟩) (hg.block M p.lt e)).trans (p.fz j), p.last⟩
theorem MakerAt.below {t : Nat} {T : Nat → Nat} {w w' : World} {M : Nat} {r : Int} {S : St} (p : MakerAt t T w M r S) (hb : Below w.heap.size w w') : MakerAt t T w' M r S := p.goes (Goes.below (t := fun _ => False) hb) (fun z => z) (fun z => z) (fun z => z)
theorem MakerAt.form {t : Nat} {T : Nat → Nat} {w : World} {M : Nat} {r : Int} {S : St} (p : MakerAt t T w M r S) : ∃ a c a' c', w.cell? ⟨M, 3, none⟩ = some (.slice a S.b.length c) ∧ OwnB (t + 1) T w (.slice a S.b.length c) S.b ∧ w.cell? ⟨M, 4, none⟩ = some (.slice a' S.p.length c') ∧ OwnB (t + 2) T w (.slice a' S.p.length c') S.p := by
  obtain ⟨v3, hv3, ho3⟩ := p.c3
  obtain ⟨v4, hv4, ho4⟩ := p.c4
  obtain ⟨a, c, rfl, _⟩ := ho3.form
  obtain ⟨a', c', rfl, _⟩ := ho4.form
  exact ⟨a, c, a', c', hv3, ho3, hv4, ho4⟩
theorem MakerAt.set3 {t : Nat} {T T' : Nat → Nat} {w w' : World} {M : Nat} {r : Int} {S : St} {v : Value} {l : List Nat} (p : MakerAt t T w M r S) (hg : Goes (· = t + 1) T w T' w') (ho : OwnB (t + 1) T' w' v l) :
    MakerAt t T' (w'.setCell ⟨M, 3, none⟩ v) M r ⟨l, S.p, S.n, S.last⟩ ∧ Goes (Mk t) T w T' (w'.setCell ⟨M, 3, none⟩ v) := by
  have e : ¬ ((T M) = t + 1) := by rw [p.tag]; omega
  have hT : T' M = t := (hg.tag M p.lt e).trans p.tag
  have hl : M < w'.heap.size := Nat.lt_of_lt_of_le p.lt hg.size
  have hc : ∀ i, w'.cell? ⟨M, i, none⟩ = w.cell? ⟨M, i, none⟩ := fun i => hg.cell p.lt e
  have hs : Goes (· = t) T' w' T' (w'.setCell ⟨M, 3, none⟩ v) := Goes.setCell hT
  obtain ⟨v3, hv3, ho3⟩ := p.c3
  obtain ⟨v4, hv4, ho4⟩ := p.c4
  have hof : ∀ i, i ≠ 3 → (w'.setCell ⟨M, 3, none⟩ v).cell? ⟨M, i, none⟩ = w.cell? ⟨M, i, none⟩ := fun i hi => (World.cell?_setCell_other _ _ _ _ (by intro h; exact hi (congrArg Addr.off h).symm)).trans (hc i)
  have hfz : ∀ i, (w'.setCell ⟨M, 3, none⟩ v).frozen? ⟨M, i, none⟩ = false := fun i => by rw [World.frozen?_setCell]; exact (World.frozen?_of_block (a := ⟨M, i, none⟩) (hg.block M p.lt e)).trans (p.fz i)
  exact ⟨⟨by simpa using hl, hT, (hof 0 (by omega)).trans p.c0, (hof 1 (by omega)).trans p.c1, (hof 2 (by omega)).trans p.c2, ⟨_, World.cell?_setCell_same _ _ _ ((hc 3).trans hv3), ho.goes hs (by omega)⟩, ⟨v4, (hof 4 (by omega)).trans hv4, (ho4.goes hg (by omega)).goes hs (by omega)⟩, hfz, p.last⟩, (hg.mono fun x hx => .inr (.inl hx)).trans (hs.mono fun x hx => .inl hx)⟩
theorem MakerAt.set4 {t : Nat} {T T' : Nat → Nat} {w w' : World} {M : Nat} {r : Int} {S : St} {v : Value} {l : List Nat} (p : MakerAt t T w M r S) (hg : Goes (· = t + 2) T w T' w') (ho : OwnB (t + 2) T' w' v l) :
    MakerAt t T' (w'.setCell ⟨M, 4, none⟩ v) M r ⟨S.b, l, S.n, S.last⟩ ∧ Goes (Mk t) T w T' (w'.setCell ⟨M, 4, none⟩ v) := by
  have e : ¬ ((T M) = t + 2) := by rw [p.tag]; omega
  have hT : T' M = t := (hg.tag M p.lt e).trans p.tag
  have hl : M < w'.heap.size := Nat.lt_of_lt_of_le p.lt hg.size
  have hc : ∀ i, w'.cell? ⟨M, i, none⟩ = w.cell? ⟨M, i, none⟩ := fun i => hg.cell p.lt e
  have hs : Goes (· = t) T' w' T' (w'.setCell ⟨M, 4, none⟩ v) := Goes.setCell hT
  obtain ⟨v3, hv3, ho3⟩ := p.c3
  obtain ⟨v4, hv4, ho4⟩ := p.c4
  have hof : ∀ i, i ≠ 4 → (w'.setCell ⟨M, 4, none⟩ v).cell? ⟨M, i, none⟩ = w.cell? ⟨M, i, none⟩ := fun i hi => (World.cell?_setCell_other _ _ _ _ (by intro h; exact hi (congrArg Addr.off h).symm)).trans (hc i)
  have hfz : ∀ i, (w'.setCell ⟨M, 4, none⟩ v).frozen? ⟨M, i, none⟩ = false := fun i => by rw [World.frozen?_setCell]; exact (World.frozen?_of_block (a := ⟨M, i, none⟩) (hg.block M p.lt e)).trans (p.fz i)
  exact ⟨⟨by simpa using hl, hT, (hof 0 (by omega)).trans p.c0, (hof 1 (by omega)).trans p.c1, (hof 2 (by omega)).trans p.c2, ⟨v3, (hof 3 (by omega)).trans hv3, (ho3.goes hg (by omega)).goes hs (by omega)⟩, ⟨_, World.cell?_setCell_same _ _ _ ((hc 4).trans hv4), ho.goes hs (by omega)⟩, hfz, p.last⟩, (hg.mono fun x hx => .inr (.inr hx)).trans (hs.mono fun x hx => .inl hx)⟩
theorem MakerAt.set2 {t : Nat} {T T' : Nat → Nat} {w w' : World} {M : Nat} {r : Int} {S : St}  (p : MakerAt t T w M r S) (hg : Goes (fun _ => False) T w T' w') (k : ByteArray) (hlast : k.size ≤ 64) :
    MakerAt t T' (w'.setCell ⟨M, 2, none⟩ (.string k)) M r ⟨S.b, S.p, S.n, k⟩ ∧ Goes (Mk t) T w T' (w'.setCell ⟨M, 2, none⟩ (.string k)) := by
  have e : ¬ (False) := by exact id
  have hT : T' M = t := (hg.tag M p.lt e).trans p.tag
  have hl : M < w'.heap.size := Nat.lt_of_lt_of_le p.lt hg.size
  have hc : ∀ i, w'.cell? ⟨M, i, none⟩ = w.cell? ⟨M, i, none⟩ := fun i => hg.cell p.lt e
  have hs : Goes (· = t) T' w' T' (w'.setCell ⟨M, 2, none⟩ (.string k)) := Goes.setCell hT
  obtain ⟨v3, hv3, ho3⟩ := p.c3
  obtain ⟨v4, hv4, ho4⟩ := p.c4
  have hof : ∀ i, i ≠ 2 → (w'.setCell ⟨M, 2, none⟩ (.string k)).cell? ⟨M, i, none⟩ = w.cell? ⟨M, i, none⟩ := fun i hi => (World.cell?_setCell_other _ _ _ _ (by intro h; exact hi (congrArg Addr.off h).symm)).trans (hc i)
  have hfz : ∀ i, (w'.setCell ⟨M, 2, none⟩ (.string k)).frozen? ⟨M, i, none⟩ = false := fun i => by rw [World.frozen?_setCell]; exact (World.frozen?_of_block (a := ⟨M, i, none⟩) (hg.block M p.lt e)).trans (p.fz i)
  exact ⟨⟨by simpa using hl, hT, (hof 0 (by omega)).trans p.c0, (hof 1 (by omega)).trans p.c1, World.cell?_setCell_same _ _ _ ((hc 2).trans p.c2), ⟨v3, (hof 3 (by omega)).trans hv3, (ho3.goes hg (fun z => z)).goes hs (by omega)⟩, ⟨v4, (hof 4 (by omega)).trans hv4, (ho4.goes hg (fun z => z)).goes hs (by omega)⟩, hfz, hlast⟩, (hg.mono fun x hx => hx.elim).trans (hs.mono fun x hx => .inl hx)⟩
theorem MakerAt.set1 {t : Nat} {T T' : Nat → Nat} {w w' : World} {M : Nat} {r : Int} {S : St}  (p : MakerAt t T w M r S) (hg : Goes (fun _ => False) T w T' w') (n : Nat) :
    MakerAt t T' (w'.setCell ⟨M, 1, none⟩ (.int .i64 (n : Int))) M r ⟨S.b, S.p, n, S.last⟩ ∧ Goes (Mk t) T w T' (w'.setCell ⟨M, 1, none⟩ (.int .i64 (n : Int))) := by
  have e : ¬ (False) := by exact id
  have hT : T' M = t := (hg.tag M p.lt e).trans p.tag
  have hl : M < w'.heap.size := Nat.lt_of_lt_of_le p.lt hg.size
  have hc : ∀ i, w'.cell? ⟨M, i, none⟩ = w.cell? ⟨M, i, none⟩ := fun i => hg.cell p.lt e
  have hs : Goes (· = t) T' w' T' (w'.setCell ⟨M, 1, none⟩ (.int .i64 (n : Int))) := Goes.setCell hT
  obtain ⟨v3, hv3, ho3⟩ := p.c3
  obtain ⟨v4, hv4, ho4⟩ := p.c4
  have hof : ∀ i, i ≠ 1 → (w'.setCell ⟨M, 1, none⟩ (.int .i64 (n : Int))).cell? ⟨M, i, none⟩ = w.cell? ⟨M, i, none⟩ := fun i hi => (World.cell?_setCell_other _ _ _ _ (by intro h; exact hi (congrArg Addr.off h).symm)).trans (hc i)
  have hfz : ∀ i, (w'.setCell ⟨M, 1, none⟩ (.int .i64 (n : Int))).frozen? ⟨M, i, none⟩ = false := fun i => by rw [World.frozen?_setCell]; exact (World.frozen?_of_block (a := ⟨M, i, none⟩) (hg.block M p.lt e)).trans (p.fz i)
  exact ⟨⟨by simpa using hl, hT, (hof 0 (by omega)).trans p.c0, World.cell?_setCell_same _ _ _ ((hc 1).trans p.c1), (hof 2 (by omega)).trans p.c2, ⟨v3, (hof 3 (by omega)).trans hv3, (ho3.goes hg (fun z => z)).goes hs (by omega)⟩, ⟨v4, (hof 4 (by omega)).trans hv4, (ho4.goes hg (fun z => z)).goes hs (by omega)⟩, hfz, p.last⟩, (hg.mono fun x hx => hx.elim).trans (hs.mono fun x hx => .inl hx)⟩

theorem newMaker_any (t : Nat) (T : Nat → Nat) (w : World) (r : Int) :
    Calls Tryd.prog 33 #[.int .i64 r] w fun e w' => e = .returned (.pointer (some ⟨w.heap.size, 0, none⟩)) ∧ MakerAt t (upd T w.heap.size t) w' w.heap.size r st0 ∧ Below w.heap.size w w' ∧ w'.heap.size = w.heap.size + 1 := by
  go_enter Tryd.func33, Tryd.ntmps33
  go_wp2
  go_ret
  exact ⟨rfl, ⟨by simp, upd_same _ _ _, by simp, by simp [st0], by simp [st0], ⟨.slice none 0 0, by simp, OwnB.empty _ _ _⟩, ⟨.slice none 0 0, by simp, OwnB.empty _ _ _⟩, fun j => by simp, Nat.zero_le _⟩, (Below.refl _ _).alloc (Nat.le_refl _) _, by simp⟩
set_option maxHeartbeats 1000000 in
theorem size_any (t : Nat) (T : Nat → Nat) (w : World) (M : Nat) (r : Int) (S : St) (p : MakerAt t T w M r S) (hb : S.b.length ≤ 100000000000) (hp : S.p.length ≤ 100000000000) :
    Calls Tryd.prog 36 #[.pointer (some ⟨M, 0, none⟩)] w fun e w' => e = .returned (.int .i64 ((S.b.length + S.p.length + 8 : Nat) : Int)) ∧ ∃ n, w' = w.drewN n := by
  obtain ⟨a, c, a', c', k3, _, k4, _⟩ := p.form
  have hN : ((S.b.length + S.p.length + 8 : Nat) : Int) = (S.b.length : Int) + (S.p.length : Int) + 8 := by omega
  rw [hN]
  clear p hN
  generalize S.b.length = B at *
  generalize S.p.length = P at *
  go_enter Tryd.func36, Tryd.ntmps36
  go_wp2
  go_quiet (fail)
  go_wp2
  go_ret
  exact ⟨rfl, _, rfl⟩
theorem restarts_any (w : World) (K o : Nat) (a : Option Addr) (n c : Nat) (h : w.cell? ⟨K, o + 1, none⟩ = some (.slice a n c)) (hn : n ≤ 1000000000000) :
    Calls Tryd.prog 61 #[.pointer (some ⟨K, o, none⟩)] w fun e w' => e = .returned (.int .i64 ((n / 4 : Nat) : Int)) ∧ w' = w := by
  have hN : ((n / 4 : Nat) : Int) = (n : Int) / 4 := by omega
  rw [hN]
  clear hN
  go_enter Tryd.func61, Tryd.ntmps61
  go_wp2
  go_ret
  exact ⟨rfl, rfl⟩
set_option maxHeartbeats 1000000 in
theorem place_any (w : World) (K o : Nat) (a : Option Addr) (l : List Nat) (n c i : Nat) (h : w.cell? ⟨K, o + 1, none⟩ = some (.slice a n c)) (hl : IsB w a l) (hn : n = l.length) (hc : l.length ≤ c) (hn2 : c ≤ 9223372036854775807) (hi : 4 * i + 4 ≤ l.length) (hl2 : l.length ≤ 1000000000000) :
    Calls Tryd.prog 78 #[.pointer (some ⟨K, o, none⟩), .int .i64 (i : Int)] w fun e w' => e = .returned (.int .i64 ((val ((l.drop (4 * i)).take 4) : Nat) : Int)) ∧ w' = w := by
  obtain ⟨b, off, rfl, hr⟩ := hl.1 (by rintro rfl; simp at hi)
  have HI : Hid (IsB w (some ⟨b, off + i * 4, none⟩) ((l.drop (4 * i)).take 4) ∧ ((l.drop (4 * i)).take 4).length = 4) := ⟨IsB.some (by have := (hr.drop (4 * i)).take 4; rw [Nat.mul_comm i 4]; exact this) (fun x hx => hl.2 x (List.mem_of_mem_drop (List.mem_of_mem_take hx))), by rw [List.length_take, List.length_drop]; omega⟩
  have hv := val_lt _ (fun x hx => hl.2 x (List.mem_of_mem_drop (List.mem_of_mem_take hx)) : ∀ x ∈ (l.drop (4 * i)).take 4, x < 256)
  rw [HI.out.2] at hv
  subst hn
  clear hl hr
  generalize (l.drop (4 * i)).take 4 = l4 at *
  generalize l.length = n at *
  have hv2 : val l4 < 4294967296 := hv
  clear hv
  go_enter Tryd.func78, Tryd.ntmps78
  go_wp2_with (go_at_call 90; refine (word_any (some ⟨b, off + i * 4, none⟩) 4 4 l4 _ HI.out.1 HI.out.2 rfl).mono ?_; rintro e w1 ⟨rfl, hw⟩; have hw2 := hw.symm; clear hw; subst hw2)
  go_ret
  exact ⟨rfl, rfl⟩
end Qb
end Go.Proofs.YtnhhalabmmcemaaDoor
