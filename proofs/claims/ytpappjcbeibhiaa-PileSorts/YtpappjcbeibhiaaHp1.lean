import Derived.Test.YtpappjcbeibhiaaProg
import Derived.Test.YtpappjcbeibhiaaIRw
import Derived.Test.YtpappjcbeibhiaaHMat
import Derived.WalkKit
import Derived.Deep.QuietTactic
import Derived.Deep.RegionWith
import Derived.BigQuiet
import Derived.Laws.EntriesVeiled
import Derived.Shelf.Abstract
namespace Go.Proofs.Ytpappjcbeibhiaa
namespace Hp
open Go.RowKit Laws Irw
set_option linter.unusedVariables false
set_option maxRecDepth 100000
set_option linter.unusedSimpArgs false

theorem above_any (k : Nat) (w : World) (h0 : 0 < k) (hk : k ≤ 1000000000000) (z : Int) (hz : z = ((k - 1) / 2 : Nat)) :
    Calls Try.prog 26 #[.int .i64 (k : Int)] w fun e w' => e = .returned (.int .i64 z) ∧ w' = w := by
  subst hz
  have q1 : IntKind.i64.wrap ((k : Int) - 1) = (k : Int) - 1 := IntWalk.i64_in _ (by omega)
  have q2 : ((k : Int) - 1).tdiv 2 = (((k - 1) / 2 : Nat) : Int) := by
    have : (k : Int) - 1 = ((k - 1 : Nat) : Int) := by omega
    rw [this]; rfl
  have q3 : IntKind.i64.wrap ((((k - 1) / 2 : Nat) : Int)) = (((k - 1) / 2 : Nat) : Int) := IntWalk.i64_in _ (by omega)
  generalize (k - 1) / 2 = m at *
  go_enter Try.func26, Try.ntmps26
  go_wp2
  go_ret
  exact ⟨by simp [q2, q3], rfl⟩

theorem own_drew {s : Nat} {T : Nat → Nat} {w : World} {v : Value} {l : List Int} (h : OwnL s T w v l) : OwnL s T w.drew v l := h
theorem goes_drew {t : Nat → Prop} {T T' : Nat → Nat} {w w' : World} (h : Goes t T w T' w') : Goes t T w T' w'.drew := ⟨h.os, h.tape, h.output, h.size, h.block, h.tag, h.high⟩
theorem goes_drewN {t : Nat → Prop} {T T' : Nat → Nat} {w w' : World} (h : Goes t T w T' w') (q : Nat) : Goes t T w T' (w'.drewN q) := ⟨h.os, h.tape, h.output, h.size, h.block, h.tag, h.high⟩
theorem own_drewN {s : Nat} {T : Nat → Nat} {w : World} {v : Value} {l : List Int} (h : OwnL s T w v l) (q : Nat) : OwnL s T (w.drewN q) v l := h

set_option maxHeartbeats 2000000 in
theorem swap_any (s : Nat) (T : Nat → Nat) (w : World) (g n c : Nat) (l : List Int) (i j : Nat) (h : OwnL s T w (.slice (some ⟨g, 0, none⟩) n c) l) (hi : i < l.length) (hj : j < l.length) (hij : i ≠ j) (hl : l.length ≤ 1000000000000) :
    Calls Try.prog 30 #[.slice (some ⟨g, 0, none⟩) n c, .int .i64 (i : Int), .int .i64 (j : Int)] w fun e w' => e = .returned (.tuple #[]) ∧ OwnL s T w' (.slice (some ⟨g, 0, none⟩) n c) (swp 0 l i j) ∧ Goes (· = s) T w T w' := by
  obtain ⟨h1, h2, _, h4⟩ := h.isI
  obtain ⟨b, off, e, hr⟩ := h1.at_ (by omega)
  simp only [Option.some.injEq, Addr.mk.injEq] at e
  obtain ⟨rfl, rfl, _⟩ := e
  have ci : w.cell? ⟨g, i, none⟩ = some (.int .i64 (l.getD i 0)) := by have := hr.cell hi; simpa using this
  have cj : w.cell? ⟨g, j, none⟩ = some (.int .i64 (l.getD j 0)) := by have := hr.cell hj; simpa using this
  have fi : w.frozen? ⟨g, i, none⟩ = false := by have := h.1; rw [← h2] at this; exact this.frozenAt _
  have fj : w.frozen? ⟨g, j, none⟩ = false := by have := h.1; rw [← h2] at this; exact this.frozenAt _
  have qi : (i : Int) < (n : Int) := by omega
  have qj : (j : Int) < (n : Int) := by omega
  have HO : Hid (OwnL s T w (.slice (some ⟨g, 0, none⟩) n c) l) := h
  have HT : Hid (T g = s) := h.2 g rfl
  have HN : Hid (n = l.length) := h2
  have HS : Hid ((l.set i (l.getD j 0)).set j (l.getD i 0) = swp 0 l i j ∧ (l.set j (l.getD i 0)).set i (l.getD j 0) = swp 0 l i j) := ⟨rfl, by unfold swp; exact (List.set_comm _ _ hij.symm)⟩
  have hij' : ¬ j = i := fun e => hij e.symm
  clear h h1 h2 hr
  generalize l.getD i 0 = x at *
  generalize l.getD j 0 = y at *
  go_enter Try.func30, Try.ntmps30
  go_wp2
  go_region
  all_goals (try go_wp2)
  go_end0
  have k1 := (HO.out.set i y HN.out).set j x (by rw [List.length_set]; exact HN.out)
  rw [HS.out.1] at k1
  have k2 : Goes (· = s) T w T ((w.setCell ⟨g, i, none⟩ (.int .i64 y)).setCell ⟨g, j, none⟩ (.int .i64 x)) := (Goes.setCell HT.out).trans (Goes.setCell HT.out)
  clear ci cj fi fj
  exact ⟨rfl, own_drew k1, goes_drew k2⟩

/-- What a less is: a closure that reads one int that it has captured. -/
structure Less (g : Nat) (f : Int → Int → Int → Bool) : Prop where
  enters : ∀ args w, (callFunc g args).run Try.prog w = .ok (.enter g args) w
  call : ∀ (o a b : Int) (B : Nat) (W : World), W.cell? ⟨B, 0, none⟩ = some (.int .i64 o) → Calls Try.prog g #[.int .i64 a, .int .i64 b, .pointer (some ⟨B, 0, none⟩)] W fun e W' => e = .returned (.bool (f o a b)) ∧ ∃ q, W' = W.drewN q
/-- The heap's own order, in that world. -/
structure Dir (w : World) (h g B : Nat) (o : Int) : Prop where
  less : w.cell? ⟨h, 0, none⟩ = some (.func (.func g) #[] #[.pointer (some ⟨B, 0, none⟩)])
  cap : w.cell? ⟨B, 0, none⟩ = some (.int .i64 o)

theorem ahead_any {f : Int → Int → Int → Bool} (w : World) (h g B : Nat) (o a b : Int) (hL : Less g f) (hd : Dir w h g B o) :
    Calls Try.prog 24 #[.pointer (some ⟨h, 0, none⟩), .int .i64 a, .int .i64 b] w fun e w' => e = .returned (.bool (f o a b)) ∧ ∃ q, w' = w.drewN q := by
  have hless := hd.less
  have hcap := hd.cap
  have eg := hL.enters
  have HL : Hid (Less g f) := hL
  clear hL hd
  go_enter Try.func24, Try.ntmps24
  go_wp2_with (go_at_fn g; refine (HL.out.call o a b B _ hcap).mono ?_; rintro e w1 ⟨rfl, q1, rfl⟩)
  go_ret
  exact ⟨rfl, q1, rfl⟩

end Hp
end Go.Proofs.Ytpappjcbeibhiaa
