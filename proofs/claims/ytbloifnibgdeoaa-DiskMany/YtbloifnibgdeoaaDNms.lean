import Derived.Test.YtbloifnibgdeoaaProg
import Derived.Test.YtbloifnibgdeoaaDRea
import Derived.Test.YtbloifnibgdeoaaDKey
import Derived.WalkKit
namespace Go.Proofs.Ytbloifnibgdeoaa
namespace Dsk
open Go.RowKit Go.Maps Go.Sort Byt Laws
set_option linter.unusedVariables false
set_option maxRecDepth 100000

/-- The text of a key. -/
def ba (k : Key) : ByteArray := ⟨k.toArray⟩
theorem ky_ba (k : Key) : ky (ba k) = k := by simp [ba]
theorem ba_ky (s : ByteArray) : ba (ky s) = s := by simp [ba]
theorem enc_ba (k : Key) : encStr k = .string (ba k) := rfl
theorem ba_size (k : Key) : (ba k).size = k.length := by simp [ba, ByteArray.size]

/-- The names of a directory, rising. -/
theorem names_dir {w : World} {b n : Nat} {fb : Nat → Nat} {l : List (Key × Nat)} {D : DataW (Option Addr)} (ho : w.ownsMap Try.prog 9 ptrR b n D) (hd : DirIs D fb l) (hl : l.length ≤ 1073741824) :
    Calls Try.prog 49 #[.map (some b)] w fun e w' => ∃ v, e = .returned v ∧ w'.ownsRow w.heap.size 9 1 v l.length ((l.map (·.1)).map encStr) ∧ Below w.heap.size w w' := by
  have hsz := size_dir hd ho keyed Try.underlying9
  refine (names_own b n D ptrR w ho (by rw [hsz]; unfold maxLen; omega) (by rw [hsz]; omega)).mono ?_
  rintro e w' ⟨v, ss, rfl, hp, hr, _, hb⟩
  have hp2 : ss.Perm (l.map (·.1)) := hp.trans (hd.keys ho keyed Try.underlying9).symm
  have hlen : ss.length = l.length := by rw [hp2.length_eq, List.length_map]
  have e := hd.sorted hp2
  rw [hlen] at hr
  refine ⟨v, rfl, ?_, hb⟩
  rw [← e]
  exact hr
theorem names_len {w : World} {b n : Nat} {fb : Nat → Nat} {l : List (Key × Nat)} {D : DataW (Option Addr)} (ho : w.ownsMap Try.prog 9 ptrR b n D) (hd : DirIs D fb l) : ∀ p ∈ l, p.1.length ≤ maxLen := by
  intro p hp
  have := strKeys_le ho Try.underlying9 p.1 ((hd.keys ho keyed Try.underlying9).subset (List.mem_map.2 ⟨p, hp, rfl⟩))
  exact this
/-- The cells of names. -/
theorem names_cell {w : World} {base n : Nat} {v : Value} {l : List (Key × Nat)} (h : w.ownsRow base 9 1 v n ((l.map (·.1)).map encStr)) {k : Nat} {p : Key × Nat} (hp : l[k]? = some p) :
    ∃ g c, v = .slice (some ⟨g, 0, none⟩) n c ∧ n ≤ c ∧ c ≤ 9223372036854775807 ∧ base ≤ g ∧ g < w.heap.size ∧ w.cell? ⟨g, k, none⟩ = some (.string (ba p.1)) := by
  have hlen := h.1
  have hlt := h.lt
  rcases h.2 with ⟨rfl, rfl⟩ | ⟨g, cap, cur, rfl, h1, h2, h3, h4, h5, h6⟩
  · simp at hlen; subst hlen; simp at hp
  · refine ⟨g, cap, rfl, h3, h4, h1, (hlt g rfl).2, ?_⟩
    have e : ((l.map (·.1)).map encStr)[k]? = some (.string (ba p.1)) := by simp [hp]; rfl
    rw [← h6, List.getElem?_take] at e
    split at e
    · rw [Go.Joins.cell_of_block h2]; simpa using e
    · cases e
end Dsk
end Go.Proofs.Ytbloifnibgdeoaa
