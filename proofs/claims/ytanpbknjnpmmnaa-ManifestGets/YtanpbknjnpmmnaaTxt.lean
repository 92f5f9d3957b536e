import Derived.Test.YtanpbknjnpmmnaaProg
import Derived.Test.YtanpbknjnpmmnaaTxr
import Derived.Test.YtanpbknjnpmmnaaTxp
import Derived.WalkKit
import Derived.WalkSpells
import Derived.WalkLawsBesides
namespace Go.Proofs.Ytanpbknjnpmmnaa
namespace Cod
open Go.RowKit CMath Byt
set_option linter.unusedVariables false
set_option maxRecDepth 20000

theorem refText_any (a : Option Addr) (cap n' : Nat) (l : List Nat) (most : Int) (w : World) (ha : IsB w a l) (hcap : l.length ≤ cap) (hlen : cap ≤ 9223372036854775807) (hm : -9223372036854775808 ≤ most ∧ most ≤ 9223372036854775807) (hn : n' = l.length) :
    Calls Try.prog 54 #[.slice a n' cap, .int .i64 most] w fun e w' => e = .returned (txt l most) ∧ w' = w := by
  subst hn
  have c1 := refUint_any a cap l.length l w ha (Nat.le_trans hcap hlen) rfl
  have hby := ha.2
  obtain ⟨n, k, f, hr⟩ : ∃ n k f, rd l 0 0 = (n, k, f) := ⟨_, _, _, rfl⟩
  unfold txt
  have ht : text l most = text l most := rfl
  conv at ht => rhs; unfold text
  rw [hr] at c1 ht
  simp only [] at c1 ht
  have hL : l.length ≤ 9223372036854775807 := Nat.le_trans hcap hlen
  by_cases hf : f = 0
  · subst hf
    obtain ⟨h1, h2, h3⟩ := rd_bytes hby hr
    have h4 := (rd_ok0 hby hr).1
    rw [if_neg (by simp)] at ht
    by_cases hmo : most < (n : Int)
    · rw [if_pos hmo] at ht
      rw [ht]
      by_cases hm0 : most < 0
      · exact refText_neg a cap l.length n k most w c1 hL h1 h2 h3 h4 hm hm0
      · exact refText_long a cap l.length n k most w c1 hL h1 h2 h3 h4 hm (by omega) hmo
    · rw [if_neg hmo] at ht
      by_cases hsh : l.length < k + n
      · rw [if_pos hsh] at ht
        rw [ht]
        exact refText_short a cap l.length n k most w c1 hL h1 h2 h3 h4 hm (by omega) hsh
      · rw [if_neg hsh] at ht
        rw [ht]
        obtain ⟨b, off, rfl, hrow⟩ := ha.1 (by intro e; subst e; simp at h2; omega)
        have hlt : ((l.drop k).take n).length = n := by simp; omega
        by_cases hck : cap = k
        · refine refText_end _ cap l.length n k most w c1 hL h1 h2 h3 h4 hm (by omega) (by omega) hcap hlen hck _ b off rfl (fun c => ?_)
          have hn0 : n = 0 := by omega
          subst hn0
          rw [List.take_zero]
          exact conv_back w _ c 0 [] (IsB.nil _ _) rfl
        · exact refText_ok _ cap l.length n k most w c1 hL h1 h2 h3 h4 hm (by omega) (by omega) hcap hlen (by omega) _ b off rfl (fun c => conv_back w _ c n _ (IsB.some ((hrow.drop k).take n) (mem_take (mem_drop hby))) hlt.symm)
  · obtain ⟨rfl, rfl, hf2⟩ := rd_err0 l hr hf
    rw [if_pos (by simpa using hf)] at ht
    rw [ht]
    exact refText_err a cap l.length 0 0 most w f c1 (by simp; omega)



end Cod
end Go.Proofs.Ytanpbknjnpmmnaa
