import Derived.Test.YtjnmklbhhlfhcaaGreatDoorQcM
import Derived.Test.YtjnmklbhhlfhcaaGreatDoorMath
import Derived.Test.YtjnmklbhhlfhcaaGreatDoorQc6
namespace Go.Proofs.YtjnmklbhhlfhcaaGreatDoor
namespace Qb
open Go.RowKit CMath Byt Laws Irw Crw Cod
set_option linter.unusedVariables false
set_option linter.unusedSimpArgs false
set_option maxRecDepth 20000

/-- How many restart points there are. -/
def mres (r : Nat) : Nat → Nat
  | 0 => 0
  | n + 1 => mres r n + if n % r = 0 then 1 else 0
theorem mres_lt {r : Nat} (hr : 1 ≤ r) : ∀ n i, r * i < n ↔ i < mres r n := by
  intro n
  induction n with
  | zero => intro i; simp [mres]
  | succ n ih =>
    intro i
    rw [mres]
    by_cases hz : n % r = 0
    · rw [if_pos hz]
      have hq : r * (n / r) = n := by have := Nat.div_add_mod n r; omega
      have hm : mres r n = n / r := by
        have h1 := ih (n / r)
        have h2 : ¬ n / r < mres r n := fun h => by have := h1.2 h; omega
        by_cases h3 : mres r n < n / r
        · exfalso
          have h4 : ¬ (r * mres r n < n) := fun h => by have := (ih _).1 h; omega
          apply h4
          calc r * mres r n < r * (n / r) := Nat.mul_lt_mul_of_pos_left h3 (by omega)
            _ = n := hq
        · omega
      constructor
      · intro h
        rw [hm]
        rcases Nat.lt_or_ge i (n / r + 1) with h1 | h1
        · exact h1
        · exfalso
          have : r * (n / r + 1) ≤ r * i := Nat.mul_le_mul_left r h1
          rw [Nat.mul_add, hq] at this
          omega
      · intro h
        rw [hm] at h
        have : r * i ≤ r * (n / r) := Nat.mul_le_mul_left r (by omega)
        omega
    · rw [if_neg hz, show mres r n + 0 = mres r n from rfl, ← ih i]
      constructor
      · intro h
        rcases Nat.lt_or_ge (r * i) n with h1 | h1
        · exact h1
        · exfalso
          have : n = r * i := by omega
          rw [this, Nat.mul_mod_right] at hz
          exact hz rfl
      · intro h; omega
theorem mres_at {r n : Nat} (hr : 1 ≤ r) (hz : n % r = 0) : r * mres r n = n := by
  have hq : r * (n / r) = n := by have := Nat.div_add_mod n r; omega
  have hm : mres r n = n / r := by
    have h2 : ¬ n / r < mres r n := fun h => by have := (mres_lt hr n (n / r)).2 h; omega
    by_cases h3 : mres r n < n / r
    · exfalso
      have h4 : ¬ (r * mres r n < n) := fun h => by have := (mres_lt hr n _).1 h; omega
      apply h4
      calc r * mres r n < r * (n / r) := Nat.mul_lt_mul_of_pos_left h3 (by omega)
        _ = n := hq
    · omega
  rw [hm, hq]
/-- The places of the restart points. -/
theorem places {r : Nat} (hr : 1 ≤ r) (l : List En) : (pushes r st0 l).p.length = 4 * mres r l.length ∧ ∀ i, r * i < l.length → ((pushes r st0 l).p.drop (4 * i)).take 4 = four (pushes r st0 (l.take (r * i))).b.length := by
  rcases List.eq_nil_or_concat l with rfl | ⟨l', e, rfl⟩
  · exact ⟨rfl, fun i h => by simp at h⟩
  · rw [List.concat_eq_append]
    have ih := places hr l'
    have hn : (pushes r st0 l').n = l'.length := by rw [pushes_n]; show 0 + _ = _; omega
    have hp : (pushes r st0 (l' ++ [e])).p = plc r (pushes r st0 l') := by rw [pushes_snoc]; rfl
    rw [hp]
    unfold plc
    rw [hn, List.length_append, List.length_singleton, mres]
    by_cases hz : l'.length % r = 0
    · rw [if_pos hz, if_pos hz]
      refine ⟨by rw [List.length_append, ih.1, four_len]; omega, fun i hi => ?_⟩
      have hm := mres_at hr hz
      rcases Nat.lt_or_ge (r * i) l'.length with h1 | h1
      · have h2 := (mres_lt hr l'.length i).1 h1
        rw [List.drop_append_of_le_length (by rw [ih.1]; omega), List.take_append_of_le_length (by rw [List.length_drop, ih.1]; omega), ih.2 i h1, List.take_append_of_le_length (by omega)]
      · have hii : r * i = l'.length := by omega
        have hi2 : i = mres r l'.length := Nat.eq_of_mul_eq_mul_left (by omega) (hii.trans hm.symm)
        have : 4 * i = (pushes r st0 l').p.length := by rw [ih.1, hi2]
        rw [this, List.drop_left, hii, List.take_left]
        rfl
    · rw [if_neg hz, if_neg hz]
      refine ⟨by rw [ih.1]; omega, fun i hi => ?_⟩
      have h1 : r * i < l'.length := by
        rcases Nat.lt_or_ge (r * i) l'.length with h1 | h1
        · exact h1
        · exfalso
          have : l'.length = r * i := by omega
          rw [this, Nat.mul_mod_right] at hz
          exact hz rfl
      rw [ih.2 i h1, List.take_append_of_le_length (by omega)]
termination_by l.length
decreasing_by simp_all
/-- What is given from a restart point on. -/
theorem wk_from {r : Nat} {l : List En} (hok : ∀ e ∈ l, Ok e ∧ 0 ≤ e.2.1) {k : Nat} (hk : k ≤ l.length) (hz : k % r = 0) : (pushes r st0 (l.take k)).b.length ≤ (pushes r st0 l).b.length ∧ (wk ((pushes r st0 l).b.drop (pushes r st0 (l.take k)).b.length) []).map Prod.fst = l.drop k := by
  have e1 : pushes r st0 l = pushes r (pushes r st0 (l.take k)) (l.drop k) := by rw [← pushes_app, List.take_append_drop]
  have hn : (pushes r st0 (l.take k)).n = k := by rw [pushes_n, List.length_take]; show 0 + _ = _; omega
  have e2 := pushes_b r (l.drop k) (pushes r st0 (l.take k))
  rw [hn, ← e1] at e2
  rw [e2]
  refine ⟨by rw [List.length_append]; omega, ?_⟩
  rw [List.drop_left, wk_tl r _ (fun e he => hok e (List.mem_of_mem_drop he)) k _ [] (.inr hz), szs_map]
theorem mul_mod0 (r i : Nat) : (r * i) % r = 0 := Nat.mul_mod_right r i
/-- Keys rise. -/
theorem chain_all {l : List En} : ∀ {last : ByteArray}, chain last l → ∀ e ∈ l, Op.bytesLess last.toList e.1.toList = true := by
  induction l with
  | nil => intro last _ e he; simp at he
  | cons x l ih =>
    intro last h e he
    have hx : Op.bytesLess last.toList x.1.toList = true := by
      have := (adds_ok h.1).2
      rw [← Lib.toList_data, ← Lib.toList_data] at this
      exact this
    rcases List.mem_cons.1 he with rfl | he
    · exact hx
    · exact KMath.bl_trans _ _ _ hx (ih h.2 e he)
theorem chain_lt {l : List En} : ∀ {last : ByteArray}, chain last l → ∀ (i j : Nat) (x y : En), l[i]? = some x → l[j]? = some y → i < j → Op.bytesLess x.1.toList y.1.toList = true := by
  induction l with
  | nil => intro last _ i j x y hx; simp at hx
  | cons z l ih =>
    intro last h i j x y hx hy hij
    cases j with
    | zero => omega
    | succ j =>
      have hy' : l[j]? = some y := by simpa using hy
      cases i with
      | zero =>
        have : z = x := by simpa using hx
        subst this
        exact chain_all h.2 y (List.mem_of_getElem? hy')
      | succ i => exact ih h.2 i j x y (by simpa using hx) hy' (by omega)
/-- What Seek finds. -/
def skE (l : List En) (key : ByteArray) : Option En := l.find? (fun e => !Op.bytesLess e.1.toList key.toList)
theorem skE_drop {l : List En} {key : ByteArray} {k : Nat} (h : ∀ i x, i < k → l[i]? = some x → Op.bytesLess x.1.toList key.toList = true) : skE (l.drop k) key = skE l key := by
  unfold skE
  conv => rhs; rw [← List.take_append_drop k l]
  rw [List.find?_append]
  have : (l.take k).find? (fun e => !Op.bytesLess e.1.toList key.toList) = none := by
    rw [List.find?_eq_none]
    intro x hx
    obtain ⟨i, hi, e⟩ := List.mem_iff_getElem.1 hx
    have hi' : i < k ∧ i < l.length := by rw [List.length_take] at hi; omega
    rw [h i x hi'.1 (by rw [List.getElem_take] at e; rw [← e]; exact List.getElem?_eq_getElem hi'.2)]
    simp
  rw [this]
  rfl
end Qb
end Go.Proofs.YtjnmklbhhlfhcaaGreatDoor
namespace Go.Proofs.YtjnmklbhhlfhcaaGreatDoor
namespace Qb
open Go.RowKit Go.Shelf CMath Byt Laws Irw Crw Cod Qe
set_option linter.unusedVariables false
set_option linter.unusedSimpArgs false
set_option maxRecDepth 100000

theorem wkp_fst (eb : List Nat) (pl : Nat) : (wkp eb pl).map Prod.snd = (wk (eb.drop pl) []).map Prod.fst := by
  unfold wkp
  rw [pos_snd]
theorem wkp_made {r : Nat} {l : List En} (hok : ∀ e ∈ l, Ok e ∧ 0 ≤ e.2.1) : (wkp (pushes r st0 l).b 0).map Prod.snd = l := by
  rw [wkp_fst]
  have := (wk_from (r := r) hok (Nat.zero_le _) (Nat.zero_mod r)).2
  rw [List.drop_zero] at this
  exact this
theorem gv_neg (l : List En) : gv (-1) l = l := by simp [gv]
/-- Open of what was made. -/
theorem open_made (a : Option Addr) (cap N R : Nat) (l : List En) (w : World) (hR : 1 ≤ R) (hc : chain ⟨#[]⟩ l) (h0 : ∀ e ∈ l, 0 ≤ e.2.1) (hl : l.length ≤ 4000) (ht : Tab w) (ha : IsB w a (blk (pushes R st0 l))) (hN : N = (blk (pushes R st0 l)).length) (hcap : N ≤ cap) (hc12 : cap ≤ 9223372036854775807) (hc0 : a = none → cap = 0) :
    Calls Tryz.prog 13 #[.slice a N cap] w fun e w' => ∃ M, e = .returned (.tuple #[.pointer (some ⟨M, 3, none⟩), .int .i64 0]) ∧ BlkF w.heap.size w' M 3 (pushes R st0 l).b (pushes R st0 l).p ∧ Below w.heap.size w w' := by
  have hok : ∀ e ∈ l, Ok e ∧ 0 ≤ e.2.1 := fun e he => ⟨chain_ok hc e he, h0 e he⟩
  have hbl := pushes_len R l hok
  have hpl := pushes_plen R l st0
  have z1 : st0.p.length = 0 := rfl
  obtain ⟨r', h1, h2, h3⟩ := opn_mk R l hR hc h0 (by omega) (by omega) (by omega)
  have hL := blk_len (pushes R st0 l)
  refine (open_any a cap N (blk (pushes R st0 l)) w ht ha hN hcap hc12 (by omega) hc0).mono fun e w' ⟨hb, h⟩ => ?_
  rw [h2] at h
  obtain ⟨M, he, hk⟩ := h
  dsimp only at hk
  rw [h3] at hk
  exact ⟨M, he, hk, hb⟩
theorem given_made (w : World) (K o R : Nat) (l : List En) (hc : chain ⟨#[]⟩ l) (h0 : ∀ e ∈ l, 0 ≤ e.2.1) (hl : l.length ≤ 4000) (hk : BlkZ w K o (pushes R st0 l).b (pushes R st0 l).p) :
    Calls Tryz.prog 15 #[.pointer (some ⟨K, o, none⟩), .int .i64 (-1)] w fun e w' => GvIs w l e w' := by
  have hok : ∀ e ∈ l, Ok e ∧ 0 ≤ e.2.1 := fun e he => ⟨chain_ok hc e he, h0 e he⟩
  have hbl := pushes_len R l hok
  have := given_any w K o _ _ (-1) hk (by omega)
  rw [gv_neg, wkp_made hok] at this
  exact this
end Qb
end Go.Proofs.YtjnmklbhhlfhcaaGreatDoor
