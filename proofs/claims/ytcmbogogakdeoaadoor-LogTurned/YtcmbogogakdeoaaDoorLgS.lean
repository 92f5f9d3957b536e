import Derived.Test.YtcmbogogakdeoaaDoorLgB
namespace Go.Proofs.YtcmbogogakdeoaaDoor
namespace Lg
open CMath
set_option linter.unusedVariables false

/-- Where the reading of the record at pos stands: at n, acc is read. -/
def At (b : List Nat) (pos : Nat) (begun : Bool) (n : Nat) (acc : List Nat) : Prop :=
  (∀ R, Std b pos R → ∃ r, R = acc ++ r ∧ Sta b begun n r) ∧ (∀ r, Sta b begun n r → Std b pos (acc ++ r) ∧ pos + (app pos (acc ++ r)).length = n + (lay begun (512 - n % 512) r).length)
theorem At.start {b : List Nat} {pos : Nat} (hz : Zs b pos) : At b pos false (beg pos) [] := by
  refine ⟨fun R h => ⟨R, rfl, (std_iff.1 h).2⟩, fun r h => ⟨std_iff.2 ⟨hz, h⟩, ?_⟩⟩
  rw [List.nil_append]
  unfold app beg
  split
  · rename_i h8
    rw [show (pos + (512 - pos % 512)) % 512 = 0 by omega, List.length_append, zer_length, Nat.sub_zero]
    omega
  · rfl
theorem not_zs {b : List Nat} {pos : Nat} (hz : ¬ Zs b pos) (R : List Nat) : ¬ Std b pos R := fun h => hz (std_iff.1 h).1
section
variable {b acc : List Nat} {pos n : Nat} {begun : Bool}
theorem At.none (h : At b pos begun n acc) (hb : ∀ x ∈ b, x < 256) (h8 : 8 ≤ 512 - n % 512) (h1 : ¬ Ends begun (512 - n % 512) (b.drop n)) (h2 : ¬ On begun (512 - n % 512) (b.drop n)) (R : List Nat) : ¬ Std b pos R := by
  intro hs
  obtain ⟨r, rfl, hr, hl⟩ := h.1 R hs
  exact lay_none h8 (by omega) (byte_drop hb _) hr h1 h2 hl
theorem At.ends (h : At b pos begun n acc) (hb : ∀ x ∈ b, x < 256) (h8 : 8 ≤ 512 - n % 512) (he : Ends begun (512 - n % 512) (b.drop n)) : Std b pos (acc ++ part (b.drop n)) ∧ pos + (app pos (acc ++ part (b.drop n))).length = n + 7 + (part (b.drop n)).length := by
  have hpl := part_length he.1
  have hne : begun = true → part (b.drop n) ≠ [] := fun hb' e => by
    have := he.2.2.2.2 hb'
    rw [e] at hpl
    simp at hpl
    omega
  have hs : Sta b begun n (part (b.drop n)) := ⟨hne, (lay_ends h8 (by omega) (byte_drop hb _) hne he).2 rfl⟩
  obtain ⟨g1, g2⟩ := h.2 _ hs
  refine ⟨g1, ?_⟩
  rw [g2, lay_end (by have := he.2.2.2.1; omega), pie_length]
  omega
theorem At.on (h : At b pos begun n acc) (hb : ∀ x ∈ b, x < 256) (h8 : 8 ≤ 512 - n % 512) (he : On begun (512 - n % 512) (b.drop n)) : At b pos true (n + 7 + (part (b.drop n)).length) (acc ++ part (b.drop n)) ∧ (n + 7 + (part (b.drop n)).length) % 512 = 0 := by
  have hpl := part_length he.1
  have hl := he.2.2.2
  have hm : (n + 7 + (part (b.drop n)).length) % 512 = 0 := by omega
  refine ⟨⟨fun R hs => ?_, fun r hr => ?_⟩, hm⟩
  · obtain ⟨r, rfl, hr, hl⟩ := h.1 R hs
    obtain ⟨q, rfl, hq, hlq⟩ := (lay_ons h8 (by omega) (byte_drop hb _) hr he).1 hl
    refine ⟨q, by rw [List.append_assoc], fun _ => hq, ?_⟩
    rw [List.drop_drop] at hlq
    rw [hm, show n + 7 + (part (b.drop n)).length = n + (7 + (part (b.drop n)).length) by omega]
    exact hlq
  · obtain ⟨hr1, hr2⟩ := hr
    rw [hm] at hr2
    have hq : r ≠ [] := hr1 rfl
    have hq1 : 0 < r.length := List.length_pos_iff.2 hq
    have hne : begun = true → part (b.drop n) ++ r ≠ [] := fun _ e => hq (List.append_eq_nil_iff.1 e).2
    have hs : Sta b begun n (part (b.drop n) ++ r) := by
      refine ⟨hne, (lay_ons h8 (by omega) (byte_drop hb _) hne he).2 ⟨r, rfl, hq, ?_⟩⟩
      rw [List.drop_drop, show n + (7 + (part (b.drop n)).length) = n + 7 + (part (b.drop n)).length by omega]
      exact hr2
    obtain ⟨g1, g2⟩ := h.2 _ hs
    rw [← List.append_assoc] at g1 g2
    refine ⟨g1, ?_⟩
    rw [g2, hm, lay_on (by simp; omega) h8, show 512 - n % 512 - 7 = (part (b.drop n)).length by omega, List.take_left, List.drop_left, List.length_append, pie_length, Nat.sub_zero]
    omega
theorem part_fits {d : List Nat} (h : 7 + hl d ≤ d.length) : 7 + (part d).length ≤ d.length := by rw [part_length h]; exact h
end
/-- the records read so far, and one more -/
theorem laidF_snoc (acc : List Nat) (rs : List (List Nat)) (r : List Nat) : laidF acc (rs ++ [r]) = laidF acc rs ++ app (laidF acc rs).length r := by rw [laidF_append]; rfl
theorem or8 {x y : Nat} (hx : x < 256) (hy : y < 256) : x ||| (y * 256) = x + 256 * y := by
  have := Nat.two_pow_add_eq_or_of_lt (i := 8) (b := x) (by omega) y
  simp at this
  rw [Nat.or_comm, Nat.mul_comm, ← this]
  omega

end Lg
end Go.Proofs.YtcmbogogakdeoaaDoor
