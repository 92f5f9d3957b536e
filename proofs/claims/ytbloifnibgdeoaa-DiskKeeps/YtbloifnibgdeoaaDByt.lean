import Derived.Test.YtbloifnibgdeoaaDImg
import Derived.Test.YtbloifnibgdeoaaDRen
import Derived.Maps.Range
namespace Go.Proofs.Ytbloifnibgdeoaa
namespace Dsk
open Go.RowKit Go.Maps Go.Sort Byt Laws
set_option linter.unusedVariables false
set_option maxRecDepth 100000
/-- one name more has been counted -/
theorem used_step {fl : List Fl} : ∀ {l : List (Key × Nat)} {p : Key × Nat} {q q' : Key → Bool}, Rises l → p ∈ l → q p.1 = false → (∀ x, q' x = (q x || decide (x = p.1))) → usedOf fl (l.filter fun y => q' y.1) = usedOf fl (l.filter fun y => q y.1) + lenOf fl p.2
  | y :: r, p, q, q', hr, hp, hq, hq' => by
    have hr' := List.pairwise_cons.1 hr
    by_cases e : y = p
    · subst e
      have h1 : q' y.1 = true := by rw [hq']; simp
      have h2 : (r.filter fun y => q' y.1) = r.filter fun y => q y.1 := List.filter_congr fun z hz => by
        rw [hq']
        have : z.1 ≠ y.1 := fun e => key_irrefl y.1 (by have := hr'.1 z hz; rwa [e] at this)
        simp [this]
      have e1 : ((y :: r).filter fun y => q' y.1) = y :: (r.filter fun y => q' y.1) := by rw [List.filter_cons, if_pos h1]
      have e2 : ((y :: r).filter fun y => q y.1) = r.filter fun y => q y.1 := by rw [List.filter_cons, if_neg (by rw [hq]; simp)]
      rw [e1, e2, h2]
      unfold usedOf
      rw [List.map_cons, List.sum_cons]
      exact Nat.add_comm _ _
    · have hp' : p ∈ r := by
        rcases List.mem_cons.1 hp with h | h
        · exact absurd h.symm e
        · exact h
      have hne : y.1 ≠ p.1 := fun e => key_irrefl y.1 (by have := hr'.1 p hp'; rwa [← e] at this)
      have hy : q' y.1 = q y.1 := by rw [hq']; simp [hne]
      have ih := used_step (fl := fl) hr'.2 hp' hq hq'
      unfold usedOf at ih ⊢
      by_cases hb : q y.1 = true
      · have e1 : ((y :: r).filter fun y => q' y.1) = y :: (r.filter fun y => q' y.1) := by rw [List.filter_cons, if_pos (by rw [hy]; exact hb)]
        have e2 : ((y :: r).filter fun y => q y.1) = y :: (r.filter fun y => q y.1) := by rw [List.filter_cons, if_pos hb]
        rw [e1, e2, List.map_cons, List.map_cons, List.sum_cons, List.sum_cons, ih]
        omega
      · have e1 : ((y :: r).filter fun y => q' y.1) = r.filter fun y => q' y.1 := by rw [List.filter_cons, if_neg (by rw [hy]; exact hb)]
        have e2 : ((y :: r).filter fun y => q y.1) = r.filter fun y => q y.1 := by rw [List.filter_cons, if_neg hb]
        rw [e1, e2, ih]
theorem used_filter_le (fl : List Fl) (l : List (Key × Nat)) (q : Key × Nat → Bool) : usedOf fl (l.filter q) ≤ usedOf fl l := by
  induction l with
  | nil => simp [usedOf]
  | cons y r ih =>
    unfold usedOf at ih ⊢
    by_cases hb : q y = true
    · rw [List.filter_cons_of_pos hb, List.map_cons, List.map_cons, List.sum_cons, List.sum_cons]; omega
    · rw [List.filter_cons_of_neg hb, List.map_cons, List.sum_cons]; omega
theorem key_dec (a b : Key) : (a == b) = decide (a = b) := by
  by_cases e : a = b
  · subst e; simp
  · simp [e]
theorem key_s {key : Value} {kl : Lit} (h : keyOf Try.prog 9 key = some kl) : ∃ s : ByteArray, key = .string s ∧ kl = .string (ky s) := by
  cases key <;> simp [keyOf, Try.underlying9, mapKey] at h
  obtain ⟨_, rfl⟩ := h
  exact ⟨_, rfl, rfl⟩
/-- what stands while the bytes are counted -/
structure CntS (w : World) (mb r n : Nat) (D : DataW (Option Addr)) (fl : List Fl) (l : List (Key × Nat)) (left : Lit → Bool) (cnt : Nat) (v : Value) (wr : World) : Prop where
  rg : wr.ranges Try.prog 9 ptrR mb r n D left cnt
  sub : ∀ kl, left kl = true → Maps.has D kl = true
  bel : Below w.heap.size w wr
  val : v = .int .i64 (usedOf fl (l.filter fun p => !left (.string p.1)) : Nat)
set_option maxHeartbeats 1000000 in
theorem bytes_any {w : World} {mb n : Nat} {fb : Nat → Nat} {l : List (Key × Nat)} {fl : List Fl} {D : DataW (Option Addr)} (ho : w.ownsMap Try.prog 9 ptrR mb n D) (hd : DirIs D fb l) (hf : ∀ p ∈ l, ∃ f, fl[p.2]? = some f ∧ ∃ a c, Fld 2 w (fb p.2) (fcell a c f)) (hu : usedOf fl l ≤ 9223372036854775807) :
    Calls Try.prog 57 #[.map (some mb)] w fun e w' => e = .returned (.int .i64 (usedOf fl l : Nat)) ∧ Below w.heap.size w w' := by
  obtain ⟨w1, hrg, hr1, hg1, hsz1⟩ := ho.range keyed Try.underlying82
  have hm := ho.lt
  have H1 : Hid (CntS w mb w.heap.size n D fl l (Maps.has D) (Maps.size D) (.int .i64 0) w1) := ⟨hr1, fun _ h => h, ⟨hg1.os, hg1.tape, hg1.output, hg1.size, fun b hb => hg1.block b hb (by simp)⟩, by
    have : l.filter (fun p => !Maps.has D (.string p.1)) = [] := List.filter_eq_nil_iff.2 fun p hp => by rw [hd.has, look_mem hd.rises hp]; simp
    rw [this]; rfl⟩
  have HD : Hid (DirIs D fb l ∧ (∀ p ∈ l, ∃ f, fl[p.2]? = some f ∧ ∃ a c, Fld 2 w (fb p.2) (fcell a c f)) ∧ usedOf fl l ≤ 9223372036854775807) := ⟨hd, hf, hu⟩
  clear hr1 hg1 hsz1 hd hf hu
  go_enter Try.func57, Try.ntmps57
  go_wp2
  go_loopw [3] (fun s w' => ∃ (left : Lit → Bool) (cnt : Nat), Hid (CntS w mb w.heap.size n D fl l left cnt s w')) (fun _ w' => w'.rangeLeft mb w.heap.size)
  case atStart => exact ⟨_, _, H1.out⟩
  case round =>
    clear H1
    obtain ⟨left, cnt, HX⟩ := hrel
    rename World => wr
    have hval := HX.out.val
    subst hval
    rcases HX.out.rg.next keyed 0 with ⟨hc0, hall, hrun⟩ | ⟨key, v, kl, y, w2, cnt2, hk, hlf, hRv, hat, hrun, hr2, hlt2, hg2, hs2, hen⟩
    · have hnx : ∀ ty, (Instr.next (.pointer (some ⟨w.heap.size, 0, none⟩)) false ty).run Try.prog wr = _ := fun _ => hrun
      have HE : Hid (usedOf fl (l.filter fun p => !left (.string p.1)) = usedOf fl l) := by
        show _ = _
        have : l.filter (fun p => !left (.string p.1)) = l := List.filter_eq_self.2 fun p _ => by rw [hall]; rfl
        rw [this]
      clear hall hrun
      go_wp2
      go_ret
      exact ⟨by rw [HE.out]; rfl, HX.out.bel⟩
    · obtain ⟨s, hs, rfl⟩ := key_s hk
      subst hs
      have hlk := HX.out.sub _ hlf
      rw [HD.out.1.has] at hlk
      obtain ⟨i, hi⟩ := Option.isSome_iff_exists.1 hlk
      have hy : y.1 = .held (some ⟨fb i, 0, none⟩) := by rw [← hat (.held none), HD.out.1.at_, hi]; rfl
      have hv : v = .pointer (some ⟨fb i, 0, none⟩) := ptrR_inv (show ptrR v = some (.held (some ⟨fb i, 0, none⟩), y.2) by rw [← hy]; exact hRv)
      subst hv
      have hin := look_some hi
      obtain ⟨f, hfl, a, c, hfd⟩ := HD.out.2.1 _ hin
      have hb2 : Below w.heap.size w w2 := HX.out.bel.grown hg2 HX.out.bel.size (by intro k hk; cases hk; exact Nat.le_refl _)
      have hfd2 := hfd.keep (Keep.below (bs := []) hb2) (by simp)
      have hu := used_step (fl := fl) (q := fun x => !left (.string x)) (q' := fun x => !(left (.string x) && !(Lit.string x).sameKey (.string (ky s)))) HD.out.1.rises hin (by simp [hlf]) (fun x => by
        have : (Lit.string x).sameKey (.string (ky s)) = decide (x = ky s) := by simp [Lit.sameKey]; exact key_dec x (ky s)
        rw [this]; cases left (.string x) <;> cases decide (x = ky s) <;> rfl)
      have hlen : lenOf fl i = f.data.length := by unfold lenOf; rw [hfl]; rfl
      have hle := used_filter_le fl l (fun p => !(left (.string p.1) && !(Lit.string p.1).sameKey (.string (ky s))))
      have hmax := HD.out.2.2
      have HN : Hid (CntS w mb w.heap.size n D fl l (fun x => left x && !x.sameKey (.string (ky s))) cnt2 (.int .i64 (usedOf fl (l.filter fun p => !(left (.string p.1) && !(Lit.string p.1).sameKey (.string (ky s)))) : Nat)) w2 ∧ cnt2 < cnt ∧ wr.rangeLeft mb w.heap.size = cnt) := ⟨⟨hr2, fun k hk => HX.out.sub k (by simp at hk; exact hk.1), hb2, rfl⟩, hlt2, HX.out.rg.left_eq⟩
      have hnx : ∀ ty, (Instr.next (.pointer (some ⟨w.heap.size, 0, none⟩)) false ty).run Try.prog wr = _ := fun _ => hrun
      have hc0 := (hfd2.2 0 (by omega)).1
      simp only [fcell, if_true] at hc0
      have HS : Hid ((usedOf fl (l.filter fun p => !left (.string p.1)) : Int) + (f.data.length : Int) = (usedOf fl (l.filter fun p => !(left (.string p.1) && !(Lit.string p.1).sameKey (.string (ky s)))) : Nat)) := by
        show _ = _
        rw [hu, ← hlen]; rfl
      have HLE : Hid (usedOf fl (l.filter fun p => !(left (.string p.1) && !(Lit.string p.1).sameKey (.string (ky s)))) ≤ usedOf fl l) := hle
      clear hu hle hmax hlen hi hin hfl hfd
      clear hr2 hlt2 hg2 hs2 hat hRv hrun hb2 hlk hy
      go_wp2
      go_roundw
      case rel =>
        have hb : wrap64 ((usedOf fl (l.filter fun p => !left (.string p.1)) : Int) + (f.data.length : Int)) = (usedOf fl (l.filter fun p => !(left (.string p.1) && !(Lit.string p.1).sameKey (.string (ky s)))) : Nat) := by
          rw [HS.out]
          have h1 := HLE.out
          have h2 := HD.out.2.2
          unfold wrap64; omega
        rw [hb]
        exact ⟨_, _, HN.out.1⟩
      case measure => rw [HN.out.2.2, HN.out.1.rg.left_eq]; exact HN.out.2.1
end Dsk
end Go.Proofs.Ytbloifnibgdeoaa
