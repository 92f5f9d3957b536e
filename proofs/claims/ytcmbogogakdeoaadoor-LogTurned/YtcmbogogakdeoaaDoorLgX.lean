import Derived.Test.YtcmbogogakdeoaaDoorLgW
namespace Go.Proofs.YtcmbogogakdeoaaDoor
namespace Lg
open CMath
set_option linter.unusedVariables false
set_option maxRecDepth 100000

/-- where the k-th record's bytes begin -/
def Pk (recs : List (List Nat)) (k : Nat) : Nat := (laidF [] (recs.take k)).length
theorem pk_next {recs : List (List Nat)} {k : Nat} {R : List Nat} (h : recs[k]? = some R) : Std (laidF [] recs) (Pk recs k) R ∧ Pk recs (k + 1) = Pk recs k + (app (Pk recs k) R).length ∧ Pk recs (k + 1) ≤ (laidF [] recs).length := by
  have e : recs.take (k + 1) = recs.take k ++ [R] := by rw [List.take_add_one, h]; rfl
  have hp := laidF_take [] recs (k + 1)
  have hl := hp.length_le
  rw [e, laidF_append] at hp
  refine ⟨std_of_pre hp, ?_, hl⟩
  unfold Pk
  rw [e, laidF_append]
  simp only [laidF_cons, laidF_nil, List.length_append]
/-- the bytes at n begin a piece (or the zeros) of the k-th record -/
def Stn (recs : List (List Nat)) (k n : Nat) : Prop := ∃ R, recs[k]? = some R ∧ ((n = Pk recs k ∧ 512 - n % 512 < 8) ∨ ∃ m b' l' r', n = beg (Pk recs k) + m ∧ StL false (512 - beg (Pk recs k) % 512) R m b' l' r')
theorem stn_first {recs : List (List Nat)} {k : Nat} (h : k < recs.length) : Stn recs k (Pk recs k) := by
  refine ⟨recs[k], List.getElem?_eq_getElem h, ?_⟩
  by_cases h8 : 512 - Pk recs k % 512 < 8
  · exact .inl ⟨rfl, h8⟩
  · refine .inr ⟨0, _, _, _, ?_, StL.here _ _ _⟩
    unfold beg
    rw [if_neg h8]
    rfl
/-- What stands at such a place. -/
theorem piece_of {begun : Bool} {left : Nat} {r d : List Nat} (h8 : 8 ≤ left) (h5 : left ≤ 512) (hd : ∀ x ∈ d, x < 256) (h : lay begun left r <+: d) : ∃ en, 7 + hl d ≤ d.length ∧ hl d < 506 ∧ d.getD 6 0 = kd begun en ∧ Sums d ∧ (r.length ≤ left - 7 → hl d = r.length) ∧ (¬ r.length ≤ left - 7 → hl d = left - 7) := by
  by_cases hf : r.length ≤ left - 7
  · rw [lay_end hf, pie_pre (by omega) hd] at h
    obtain ⟨g1, g2, g3, _, g5⟩ := h
    exact ⟨true, by omega, by omega, g3, g5, fun _ => g2, fun z => absurd hf z⟩
  · rw [lay_on hf h8] at h
    have htl : (r.take (left - 7)).length = left - 7 := by rw [List.length_take]; omega
    obtain ⟨g1, g2, g3, _, g5⟩ := (pie_pre (by omega) hd).1 ((List.prefix_append _ _).trans h)
    exact ⟨false, by omega, by omega, g3, g5, fun z => absurd z hf, fun _ => by omega⟩
theorem stl_at {b R : List Nat} {n0 m l' : Nat} {b' : Bool} {r' : List Nat} (hs : StL false (512 - n0 % 512) R m b' l' r') (h8 : 8 ≤ 512 - n0 % 512) (h : lay false (512 - n0 % 512) R <+: b.drop n0) : lay b' l' r' <+: b.drop (n0 + m) ∧ 8 ≤ l' ∧ l' ≤ 512 ∧ (b' = true → r' ≠ []) ∧ l' = 512 - (n0 + m) % 512 ∧ (lay false (512 - n0 % 512) R).length = m + (lay b' l' r').length := by
  obtain ⟨i1, i2, i3, i4, i5, i6⟩ := hs.room h8 (by omega) (by simp)
  refine ⟨?_, i1, i2, i3, i6 n0 rfl, i4⟩
  obtain ⟨t, ht⟩ := h
  have := congrArg (List.drop m) ht
  rw [List.drop_append_of_le_length (by omega), i5, List.drop_drop] at this
  exact ⟨t, this⟩
theorem app_beg (P : Nat) (R : List Nat) : P + (app P R).length = beg P + (lay false (512 - beg P % 512) R).length := by
  unfold app beg
  split
  · rw [show (P + (512 - P % 512)) % 512 = 0 by omega, List.length_append, zer_length, Nat.sub_zero]
    omega
  · rfl
theorem lay_pos (b : Bool) (l : Nat) (r : List Nat) (h8 : 8 ≤ l) : 0 < (lay b l r).length := by
  by_cases h : r.length ≤ l - 7
  · rw [lay_end h, pie_length]; omega
  · rw [lay_on h h8, List.length_append, pie_length]; omega
/-- A station lies in its record. -/
theorem stn_in {recs : List (List Nat)} {k n : Nat} (h : Stn recs k n) : Pk recs k ≤ n ∧ n < Pk recs (k + 1) ∧ k < recs.length := by
  obtain ⟨R, hR, h⟩ := h
  obtain ⟨h1, h2, h3⟩ := pk_next hR
  have hk := (List.getElem?_eq_some_iff.1 hR).1
  have hab := app_beg (Pk recs k) R
  have hbl := beg_left (Pk recs k)
  have hbp : Pk recs k ≤ beg (Pk recs k) := by unfold beg; split <;> omega
  rcases h with ⟨rfl, h8⟩ | ⟨m, b', l', r', rfl, hs⟩
  · have := app_pos (Pk recs k) R
    exact ⟨Nat.le_refl _, by omega, hk⟩
  · obtain ⟨i1, i2, i3, i4, i5, i6⟩ := hs.room hbl.1 hbl.2 (by simp)
    have := lay_pos b' l' r' i1
    exact ⟨by omega, by omega, hk⟩
/-- The piece at a station: where it ends, and what stands there then. -/
theorem stn_step {recs : List (List Nat)} (hr : ∀ r ∈ recs, ∀ x ∈ r, x < 256) {k n : Nat} (h : Stn recs k n) :
    (512 - n % 512 < 8 ∧ n = Pk recs k ∧ n - n % 512 + 512 ≤ (laidF [] recs).length ∧ Stn recs k (n - n % 512 + 512)) ∨ (8 ≤ 512 - n % 512 ∧ n + 7 + hl ((laidF [] recs).drop n) ≤ (laidF [] recs).length ∧ (n + 7 + hl ((laidF [] recs).drop n) = Pk recs (k + 1) ∨ Stn recs k (n + 7 + hl ((laidF [] recs).drop n)))) := by
  have hb := laidF_byte recs [] (by simp) hr
  obtain ⟨R, hR, h⟩ := h
  obtain ⟨h1, h2, h3⟩ := pk_next hR
  have hab := app_beg (Pk recs k) R
  have hbl := beg_left (Pk recs k)
  have hst := (std_iff.1 h1).2.2
  rcases h with ⟨hn, h8⟩ | ⟨m, b', l', r', hn, hs⟩
  · left
    have e : n - n % 512 + 512 = beg (Pk recs k) := by
      rw [← hn]
      unfold beg
      rw [if_pos h8]
      omega
    have := lay_pos false _ R hbl.1
    exact ⟨h8, hn, by rw [e]; omega, R, hR, .inr ⟨0, _, _, _, e, StL.here _ _ _⟩⟩
  · right
    obtain ⟨g1, g2, g3, g4, g5, g6⟩ := stl_at hs hbl.1 hst
    rw [← hn] at g1 g5
    obtain ⟨en, p1, p2, p3, p4, p5, p6⟩ := piece_of g2 g3 (byte_drop hb _) g1
    have hnl : n ≤ (laidF [] recs).length := by omega
    rw [List.length_drop] at p1
    refine ⟨by omega, by omega, ?_⟩
    by_cases hf : r'.length ≤ l' - 7
    · left
      rw [p5 hf, h2, hab, g6, lay_end hf, pie_length]
      omega
    · right
      rw [p6 hf]
      exact ⟨R, hR, .inr ⟨m + l', _, _, _, by omega, hs.snoc hf⟩⟩
theorem std_zero {b b' : List Nat} {P z : Nat} (hz : zer z <+: b.drop P) (hz' : zer z <+: b'.drop P) (h1 : b'.take P = b.take P) (h2 : b'.drop (P + z) = b.drop (P + z)) : b' = b := by
  obtain ⟨t, ht⟩ := hz
  obtain ⟨t', ht'⟩ := hz'
  have e1 := congrArg (List.drop z) ht
  have e2 := congrArg (List.drop z) ht'
  rw [List.drop_append_of_le_length (by simp [zer]), List.drop_drop] at e1 e2
  rw [← List.take_append_drop P b, ← List.take_append_drop P b', h1, ← ht, ← ht']
  congr 2
  have hd : (zer z).drop z = [] := by simp [zer]
  rw [hd, List.nil_append] at e1 e2
  rw [e1, e2, h2]
/-- P7.9: bits turned within 32 of one piece, or of zeros, but in no length: the reading ends ahead of that record. -/
theorem turned_ends {recs : List (List Nat)} (hr : ∀ r ∈ recs, ∀ x ∈ r, x < 256) {k n e at' F : Nat} {b' : List Nat} (h : Stn recs k n) (hb' : ∀ x ∈ b', x < 256) (hlen : b'.length = (laidF [] recs).length) (hv : val b' = val (laidF [] recs) ^^^ 2 ^ at' * F) (hF : F < 4294967296) (hF0 : F ≠ 0) (h8 : 8 * n ≤ at')
    (he : b'.drop e = (laidF [] recs).drop e) (hz : 512 - n % 512 < 8 → e = n - n % 512 + 512) (hp : 8 ≤ 512 - n % 512 → e = n + 7 + hl ((laidF [] recs).drop n) ∧ b'.getD (n + 4) 0 = (laidF [] recs).getD (n + 4) 0 ∧ b'.getD (n + 5) 0 = (laidF [] recs).getD (n + 5) 0) : Reads b' (recs.take k) := by
  have hb := laidF_byte recs [] (by simp) hr
  have hin := stn_in h
  obtain ⟨R, hR, h⟩ := h
  obtain ⟨h1, h2, h3⟩ := pk_next hR
  have hbl := beg_left (Pk recs k)
  obtain ⟨hzs, _, hst⟩ := std_iff.1 h1
  obtain ⟨t1, t2⟩ := turn_drop hb hb' hlen hv (n := n) (by omega) h8
  have hpre : laidF [] (recs.take k) <+: b' := by
    have g1 : laidF [] (recs.take k) <+: (laidF [] recs).take n := List.prefix_take_iff.2 ⟨laidF_take _ _ _, hin.1⟩
    rw [← t1] at g1
    exact g1.trans (List.take_prefix _ _)
  refine ⟨hpre, fun s hs => ?_⟩
  have hs2 : Std b' (Pk recs k) s := hs
  obtain ⟨z1, _, z3⟩ := std_iff.1 hs2
  rcases h with ⟨hn, h9⟩ | ⟨m, c', l', r', hn, hS⟩
  · have ez := hz h9
    rw [hn] at h9
    have hnb : b' = laidF [] recs := std_zero (hzs h9) (z1 h9) (by rw [← hn]; exact t1) (by rw [← hn, show n + (512 - n % 512) = e by omega]; exact he)
    rw [hnb] at hv
    have := xor_of hv
    rw [Nat.xor_self] at this
    rcases Nat.mul_eq_zero.1 this.symm with g | g
    · have : 0 < 2 ^ at' := Nat.pow_pos (by omega)
      omega
    · exact hF0 g
  · obtain ⟨g1, g2, g3, g4, g5, g6⟩ := stl_at hS hbl.1 hst
    rw [← hn] at g1 g5
    obtain ⟨en, p1, p2, p3, p4, p5, p6⟩ := piece_of g2 g3 (byte_drop hb _) g1
    obtain ⟨q1, q2, q3⟩ := hp (by omega)
    have gd : ∀ (x : List Nat) j, (x.drop n).getD j 0 = x.getD (n + j) 0 := fun x j => by simp [List.getD]
    have hv2 := turn_take (n := 7 + hl ((laidF [] recs).drop n)) (byte_drop hb n) (byte_drop hb' n) (by simp [hlen]) p1 t2 (by rw [List.drop_drop, List.drop_drop, show n + (7 + hl ((laidF [] recs).drop n)) = e by omega]; exact he)
    have hdead := dead (begun := c') (byte_drop hb n) (byte_drop hb' n) (by simp [hlen]) p1 p2 (by rw [gd, gd]; exact q2) (by rw [gd, gd]; exact q3) p4 ⟨en, p3⟩ hv2 hF hF0
    refine hS.dead hbl.1 hbl.2 (byte_drop hb' _) hst ?_ (fun s hs => ?_) s (by simp) z3
    · have := congrArg (List.drop (beg (Pk recs k))) t1
      rw [hn, List.drop_take, List.drop_take, show beg (Pk recs k) + m - beg (Pk recs k) = m by omega] at this
      exact this
    · rw [List.drop_drop, ← hn]
      exact lay_none g2 g3 (byte_drop hb' _) hs (fun z => hdead ⟨z.2.2.1, _, z.2.1⟩) (fun z => hdead ⟨z.2.2.1, _, z.2.1⟩)
end Lg
end Go.Proofs.YtcmbogogakdeoaaDoor
