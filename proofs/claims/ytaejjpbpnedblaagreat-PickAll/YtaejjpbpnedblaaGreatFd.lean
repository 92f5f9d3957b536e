import Derived.Test.YtaejjpbpnedblaaGreatXd
import Derived.Test.YtaejjpbpnedblaaGreatFb
import Derived.Test.YtaejjpbpnedblaaGreatXk
import Derived.Test.YtaejjpbpnedblaaGreatWl
import Derived.Deep.CutRange
import Derived.Deep.CutBlock
import Derived.Deep.DeepCutAuto
namespace Go.Proofs.YtaejjpbpnedblaaGreat
namespace Vr
open Go.Shelf Go.RowKit Go.Lib Go.Sort Go.Maps Go.ChangeMaps Go.MapKept Laws Irw Crw
set_option linter.unusedVariables false
set_option linter.unusedSimpArgs false
set_option maxRecDepth 20000
/-- levels as they lie -/
def cz (zs : List Nat) : List Value := zs.map fun (z : Nat) => .int .i64 (z : Int)
/-- the scores as they lie: a box that holds their slice -/
structure ScL (w : World) (Bx sb so cap : Nat) (ss : List Int) : Prop where
  c : w.cell? ⟨Bx, 0, none⟩ = some (.slice (some ⟨sb, so, none⟩) ss.length cap)
  x : ∀ (i : Nat) (x : Int), ss[i]? = some x → w.cell? ⟨sb, so + i, none⟩ = some (.int .i64 x)
theorem ScL.below {w w' : World} {Bx sb so cap : Nat} {ss : List Int} (h : ScL w Bx sb so cap ss) (hb : RowKit.Below w.heap.size w w') : ScL w' Bx sb so cap ss :=
  ⟨(hb.cell (p := ⟨Bx, 0, none⟩) (World.block_lt_of_cell? w _ h.c)).trans h.c, fun i x hi => (hb.cell (p := ⟨sb, so + i, none⟩) (World.block_lt_of_cell? w _ (h.x i x hi))).trans (h.x i x hi)⟩
def scA (ss : List Int) (i : Nat) : Int := (ss[i]?).getD 0
/-- asked ahead of: the greater score, of equal ones the lesser level -/
def rk (ss : List Int) (a b : Nat) : Prop := scA ss b < scA ss a ∨ (scA ss a = scA ss b ∧ a < b)
theorem rk_trans {ss : List Int} {a b c : Nat} (h1 : rk ss a b) (h2 : rk ss b c) : rk ss a c := by
  unfold rk at *
  omega
theorem scA_at {ss : List Int} {i : Nat} (h : i < ss.length) : ss[i]? = some (scA ss i) := by
  unfold scA
  rw [List.getElem?_eq_getElem h]
  rfl
/-- x laid into a list at place j -/
theorem lay_get (A : List Nat) (x j : Nat) (hj : j ≤ A.length) (R : List Nat) : (A.take j ++ x :: A.drop j ++ R)[j]? = some x := by
  rw [List.append_assoc, List.getElem?_append_right (by rw [List.length_take]; omega), List.length_take, Nat.min_eq_left hj, Nat.sub_self]
  rfl
theorem lay_before (A : List Nat) (x j y : Nat) (hj : j + 1 ≤ A.length) (R : List Nat) (hy : A[j]? = some y) : (A.take (j + 1) ++ x :: A.drop (j + 1) ++ R)[j]? = some y := by
  rw [List.append_assoc, List.getElem?_append_left (by rw [List.length_take]; omega), List.getElem?_take_of_lt (by omega)]
  exact hy
theorem lay_step (A : List Nat) (x j y : Nat) (R : List Nat) (hy : A[j]? = some y) : ((A.take (j + 1) ++ x :: A.drop (j + 1) ++ R).set (j + 1) y).set j x = A.take j ++ x :: A.drop j ++ R := by
  have hj : j < A.length := (List.getElem?_eq_some_iff.1 hy).1
  have e1 : A.take (j + 1) = A.take j ++ [y] := by rw [List.take_add_one, hy]; rfl
  have e2 : A.drop j = y :: A.drop (j + 1) := by
    rw [List.drop_eq_getElem_cons hj]
    have := (List.getElem?_eq_some_iff.1 hy).2
    rw [this]
  have hl : (A.take j).length = j := by rw [List.length_take]; omega
  rw [e1, e2]
  have hl2 : (A.take j ++ [y]).length = j + 1 := by simp; omega
  have s1 : ∀ (P Q : List Nat) (u v : Nat) (k : Nat), P.length = k → (P ++ u :: Q).set k v = P ++ v :: Q := fun P Q u v k hk => by
    subst hk
    simp
  have t1 := s1 (A.take j ++ [y]) (A.drop (j + 1) ++ R) x y (j + 1) hl2
  rw [List.append_assoc, List.cons_append, t1]
  have t2 := s1 (A.take j) (y :: (A.drop (j + 1) ++ R)) y x j hl
  rw [List.append_assoc, List.singleton_append, t2]
  simp
theorem lay_perm (A : List Nat) (x j : Nat) : (A.take j ++ x :: A.drop j).Perm (x :: A) := by
  have := List.perm_middle (a := x) (l₁ := A.take j) (l₂ := A.drop j)
  rwa [List.take_append_drop] at this
theorem lay_sorted {ss : List Int} {A : List Nat} {x j : Nat} (hA : A.Pairwise (rk ss)) (h1 : ∀ y ∈ A.drop j, rk ss x y) (h2 : ∀ y ∈ A.take j, rk ss y x) : (A.take j ++ x :: A.drop j).Pairwise (rk ss) := by
  have hs : (A.take j ++ A.drop j).Pairwise (rk ss) := by rw [List.take_append_drop]; exact hA
  rw [List.pairwise_append] at hs ⊢
  refine ⟨hs.1, List.pairwise_cons.2 ⟨h1, hs.2.1⟩, fun a ha b hb => ?_⟩
  rcases List.mem_cons.1 hb with rfl | hb
  · exact h2 a ha
  · exact hs.2.2 a ha b hb
/-- one that stands ahead of x has all those ahead of it there, too -/
theorem take_rk {ss : List Int} {A : List Nat} {x j y : Nat} (hA : A.Pairwise (rk ss)) (hy : A[j]? = some y) (h : rk ss y x) : ∀ z ∈ A.take (j + 1), rk ss z x := by
  intro z hz
  have e1 : A.take (j + 1) = A.take j ++ [y] := by rw [List.take_add_one, hy]; rfl
  rw [e1] at hz
  have hs : (A.take (j + 1)).Pairwise (rk ss) := hA.sublist (List.take_sublist _ _)
  rw [e1, List.pairwise_append] at hs
  rcases List.mem_append.1 hz with hz | hz
  · exact rk_trans (hs.2.2 z hz y (by simp)) h
  · simp at hz
    subst hz
    exact h
theorem cz_get {zs : List Nat} {i z : Nat} (h : zs[i]? = some z) : (cz zs)[i]? = some (.int .i64 (z : Int)) := by
  unfold cz
  rw [List.getElem?_map, h]
  rfl
theorem cz_set (zs : List Nat) (i z : Nat) : (cz zs).set i (.int .i64 (z : Int)) = cz (zs.set i z) := by
  unfold cz
  rw [List.map_set]
/-- the state of the row: the first i are sorted, the others as they were -/
structure Ins (w1 : World) (g : Nat) (ss : List Int) (zs : List Nat) (i : Nat) (wr : World) (A : List Nat) : Prop where
  p : A.Perm (zs.take i)
  s : A.Pairwise (rk ss)
  z : Zb wr g (cz (A ++ zs.drop i))
  b : RowKit.Below w1.heap.size w1 wr
/-- within a round -/
structure InsJ (w1 : World) (g : Nat) (ss : List Int) (zs : List Nat) (i : Nat) (wr : World) (A : List Nat) (x j : Nat) : Prop where
  gx : zs[i]? = some x
  jl : j ≤ A.length
  p : A.Perm (zs.take i)
  s : A.Pairwise (rk ss)
  q : ∀ y ∈ A.drop j, rk ss x y
  z : Zb wr g (cz (A.take j ++ x :: A.drop j ++ zs.drop (i + 1)))
  b : RowKit.Below w1.heap.size w1 wr
theorem Ins.into {w1 : World} {g : Nat} {ss : List Int} {zs : List Nat} {i : Nat} {wr : World} {A : List Nat} (h : Ins w1 g ss zs i wr A) {x : Nat} (hx : zs[i]? = some x) : InsJ w1 g ss zs i wr A x A.length := by
  have hi : i < zs.length := (List.getElem?_eq_some_iff.1 hx).1
  refine ⟨hx, Nat.le_refl _, h.p, h.s, by simp, ?_, h.b⟩
  have e : A.take A.length ++ x :: A.drop A.length ++ zs.drop (i + 1) = A ++ zs.drop i := by
    rw [List.take_length, List.drop_length, List.append_assoc, List.singleton_append, List.drop_eq_getElem_cons hi, (List.getElem?_eq_some_iff.1 hx).2]
  rw [e]
  exact h.z
theorem InsJ.out {w1 : World} {g : Nat} {ss : List Int} {zs : List Nat} {i : Nat} {wr : World} {A : List Nat} {x j : Nat} (h : InsJ w1 g ss zs i wr A x j) (h2 : ∀ y ∈ A.take j, rk ss y x) (q : Nat) : Ins w1 g ss zs (i + 1) (wr.drewN q) (A.take j ++ x :: A.drop j) := by
  refine ⟨?_, lay_sorted h.s h.q h2, h.z.drew q, bl_dn h.b q⟩
  rw [List.take_add_one, h.gx]
  exact (lay_perm A x j).trans ((List.Perm.cons x h.p).trans (by simpa using (List.perm_append_singleton x (zs.take i)).symm))
theorem InsJ.step {w1 : World} {g : Nat} {ss : List Int} {zs : List Nat} {i : Nat} {wr : World} {A : List Nat} {x j y : Nat} (h : InsJ w1 g ss zs i wr A x (j + 1)) (hy : A[j]? = some y) (hg : w1.heap.size ≤ g) (h2 : rk ss x y) (q : Nat) : InsJ w1 g ss zs i (((wr.drewN q).setCell ⟨g, j + 1, none⟩ (.int .i64 (y : Int))).setCell ⟨g, j, none⟩ (.int .i64 (x : Int))) A x j := by
  have hj : j < A.length := (List.getElem?_eq_some_iff.1 hy).1
  refine ⟨h.gx, by omega, h.p, h.s, fun z hz => ?_, ?_, ((bl_dn h.b q).setCell (p := ⟨g, j + 1, none⟩) hg _).setCell (p := ⟨g, j, none⟩) hg _⟩
  · rw [List.drop_eq_getElem_cons hj, (List.getElem?_eq_some_iff.1 hy).2] at hz
    rcases List.mem_cons.1 hz with rfl | hz
    · exact h2
    · exact h.q z hz
  · have hz := ((h.z.drew q).set (j + 1) (.int .i64 (y : Int))).set j (.int .i64 (x : Int))
    rw [cz_set, cz_set, lay_step A x j y _ hy] at hz
    exact hz
theorem ins_lt {zs : List Nat} (hasc : zs.Pairwise (· < ·)) {i x y : Nat} (hx : zs[i]? = some x) (hy : y ∈ zs.take i) : y < x := by
  obtain ⟨k, hk⟩ := List.getElem?_of_mem hy
  have hkl : k < (zs.take i).length := (List.getElem?_eq_some_iff.1 hk).1
  rw [List.length_take] at hkl
  rw [List.getElem?_take_of_lt (by omega)] at hk
  have hi := (List.getElem?_eq_some_iff.1 hx)
  obtain ⟨hi1, hi2⟩ := hi
  obtain ⟨hk1, hk2⟩ := List.getElem?_eq_some_iff.1 hk
  rw [← hi2, ← hk2]
  exact List.pairwise_iff_getElem.1 hasc k i hk1 hi1 (by omega)
theorem cmpz_neg {x y : Int} (h : x < y) : cmpz x y = -1 := if_pos h
theorem cmpz_nn {x y : Int} (h : ¬ x < y) : ¬ cmpz x y < 0 := by
  unfold cmpz
  rw [if_neg h]
  split <;> omega
def IsoIs (w1 : World) (g : Nat) (ss : List Int) (zs : List Nat) (w' : World) : Prop := ∃ zs', zs'.Perm zs ∧ zs'.Pairwise (rk ss) ∧ Zb w' g (cz zs') ∧ RowKit.Below w1.heap.size w1 w'
set_option maxHeartbeats 4000000 in
theorem isort_any (w1 W : World) (g cap n Bx sb so sc : Nat) (ss : List Int) (zs : List Nat) (hs : ScL w1 Bx sb so sc ss) (hz : Zb W g (cz zs)) (hn : zs.length = n) (hn1 : n ≤ 1000) (hn2 : n ≤ cap) (hlt : ∀ z ∈ zs, z < ss.length) (hasc : zs.Pairwise (· < ·)) (hb : RowKit.Below w1.heap.size w1 W) (hg : w1.heap.size ≤ g) :
    Calls Tryz.prog 138 #[.slice (some ⟨g, 0, none⟩) n cap, .int .i64 0, .int .i64 (n : Int), .func (.func 79) #[] #[.pointer (some ⟨Bx, 0, none⟩)]] W fun e w' => e = .returned (.tuple #[]) ∧ IsoIs w1 g ss zs w' := by
  have HS := hidV hs
  have H0 : Hid (zs.length = n ∧ (∀ z ∈ zs, z < ss.length) ∧ zs.Pairwise (· < ·) ∧ w1.heap.size ≤ g) := ⟨hn, hlt, hasc, hg⟩
  have HI1 : Hid (∃ A, Ins w1 g ss zs 1 W A) := ⟨zs.take 1, List.Perm.refl _, by
    match zs with
    | [] => simp
    | a :: r => simp, by rw [List.take_append_drop]; exact hz, hb⟩
  clear hs hz hb hn hlt hasc hg
  go_enter Tryz.func138, Tryz.ntmps138
  go_wp2
  go_loopw [8] (fun i wr => ∃ k : Nat, 1 ≤ k ∧ k ≤ n + 1 ∧ i = .int .i64 (k : Int) ∧ Hid (∃ A, Ins w1 g ss zs k wr A)) (fun i _ => n + 1 - (intOf i).toNat)
  case atStart => exact ⟨1, Nat.le_refl _, by omega, rfl, HI1.out⟩
  case round =>
    clear HI1
    obtain ⟨k, hk1, hkn, rfl, HR⟩ := hrel
    by_cases hlt : k < n
    · have q1 : (k : Int) < (n : Int) := by omega
      obtain ⟨A, hA⟩ := HR.out
      obtain ⟨x, hx⟩ : ∃ x, zs[k]? = some x := ⟨_, List.getElem?_eq_getElem (by rw [H0.out.1]; exact hlt)⟩
      have hAl : A.length = k := by
        have := hA.p.length_eq
        rw [List.length_take, H0.out.1] at this
        omega
      have HJ : Hid (InsJ w1 g ss zs k wr A x k) := by
        have := hA.into hx
        rwa [hAl] at this
      clear hA HR hx
      go_wp2
      go_loopw [9] (fun j wr => ∃ m : Nat, m ≤ k ∧ j = .int .i64 (m : Int) ∧ Hid (InsJ w1 g ss zs k wr A x m)) (fun j _ => (intOf j).toNat)
      case atStart => exact ⟨k, Nat.le_refl _, rfl, HJ.out⟩
      case round =>
        clear HJ
        obtain ⟨m, hm, rfl, HR2⟩ := hrel
        rename World => wq
        by_cases hm0 : 0 < m
        · obtain ⟨p, rfl⟩ : ∃ p, m = p + 1 := ⟨m - 1, by omega⟩
          obtain ⟨y, hy⟩ : ∃ y, A[p]? = some y := ⟨_, List.getElem?_eq_getElem (by rw [hAl]; omega)⟩
          have HY : Hid (A[p]? = some y ∧ A.length = k) := ⟨hy, hAl⟩
          have q2 : (0 : Int) < ((p + 1 : Nat) : Int) := by omega
          have hlen : (A.take (p + 1) ++ x :: A.drop (p + 1) ++ zs.drop (k + 1)).length = n := by
            simp only [List.length_append, List.length_take, List.length_cons, List.length_drop]
            rw [hAl, H0.out.1]
            omega
          have c0 : wq.cell? ⟨g, p + 1, none⟩ = some (.int .i64 (x : Int)) := HR2.out.z.2.1 _ _ (cz_get (lay_get A x (p + 1) (by rw [hAl]; omega) _))
          have c1 : wq.cell? ⟨g, p, none⟩ = some (.int .i64 (y : Int)) := HR2.out.z.2.1 _ _ (cz_get (lay_before A x p y (by rw [hAl]; omega) _ hy))
          have f0 := HR2.out.z.2.2 (p + 1)
          have f1 := HR2.out.z.2.2 p
          have hxl : x < ss.length := H0.out.2.1 x (List.mem_of_getElem? HR2.out.gx)
          have hym : y ∈ zs.take k := HR2.out.p.mem_iff.1 (List.mem_of_getElem? hy)
          have hyl : y < ss.length := H0.out.2.1 y (List.mem_of_mem_take hym)
          have HXY : Hid (y < x) := ins_lt H0.out.2.2.1 HR2.out.gx hym
          have w0 : IntKind.i64.wrap (((p + 1 : Nat) : Int) - 1) = (p : Int) := by rw [show ((p + 1 : Nat) : Int) - 1 = (p : Int) by omega]; exact IntWalk.i64_in _ (by omega)
          have q3 : ((p + 1 : Nat) : Int) < (n : Int) := by omega
          have q4 : (p : Int) < (n : Int) := by omega
          have HCC : Hid (∀ d, Calls Tryz.prog 79 #[.int .i64 (x : Int), .int .i64 (y : Int), .pointer (some ⟨Bx, 0, none⟩)] (wq.drewN d) fun e w' => e = .returned (.int .i64 (cmpz (scA ss y) (scA ss x))) ∧ ∃ q, w' = (wq.drewN d).drewN q) := fun d => by
            have h := HS.out.below (bl_dn HR2.out.b d)
            exact due1_any Bx sb so ss.length sc x y _ _ _ h.c hxl hyl (h.x x _ (scA_at hxl)) (h.x y _ (scA_at hyl))
          clear hy hxl hyl hym hlen
          by_cases hlt2 : scA ss y < scA ss x
          · have HC : Hid (∀ d, Calls Tryz.prog 79 #[.int .i64 (x : Int), .int .i64 (y : Int), .pointer (some ⟨Bx, 0, none⟩)] (wq.drewN d) fun e w' => e = .returned (.int .i64 (-1)) ∧ ∃ q, w' = (wq.drewN d).drewN q) := fun d => by
              rw [← cmpz_neg hlt2]
              exact HCC.out d
            have HE : Hid (∀ d, InsJ w1 g ss zs k (((wq.drewN d).setCell ⟨g, p + 1, none⟩ (.int .i64 (y : Int))).setCell ⟨g, p, none⟩ (.int .i64 (x : Int))) A x p) := fun d => HR2.out.step HY.out.1 H0.out.2.2.2 (.inl hlt2) d
            clear HCC hlt2
            go_wp2
            go_quiet ((go_at_call 79; exact Calls.quiet_of (HC.out _)))
            go_wp2
            go_region
            go_wp2
            go_roundw
            case rel => exact ⟨p, by omega, by go_num, HE.out _⟩
            case measure => simp [intOf]
          · obtain ⟨r, hr, hr0⟩ : ∃ r, cmpz (scA ss y) (scA ss x) = r ∧ ¬ r < 0 := ⟨_, rfl, cmpz_nn hlt2⟩
            have HC : Hid (∀ d, Calls Tryz.prog 79 #[.int .i64 (x : Int), .int .i64 (y : Int), .pointer (some ⟨Bx, 0, none⟩)] (wq.drewN d) fun e w' => e = .returned (.int .i64 r) ∧ ∃ q, w' = (wq.drewN d).drewN q) := fun d => by
              rw [← hr]
              exact HCC.out d
            have OUT : Hid (∀ d, Ins w1 g ss zs (k + 1) (wq.drewN d) (A.take (p + 1) ++ x :: A.drop (p + 1))) := fun d => HR2.out.out (take_rk HR2.out.s HY.out.1 (by have := HXY.out; unfold rk; omega)) d
            clear HCC hlt2 hr
            go_wp2
            go_quiet ((go_at_call 79; exact Calls.quiet_of (HC.out _)))
            go_wp2
            go_roundw
            case rel => exact ⟨k + 1, by omega, by omega, by go_num, _, OUT.out _⟩
            case measure => simp [intOf]; omega
        · obtain rfl : m = 0 := by omega
          go_wp2
          go_quiet (fail)
          go_wp2
          go_roundw
          case rel => exact ⟨k + 1, by omega, by omega, by go_num, _, HR2.out.out (by simp) _⟩
          case measure => simp [intOf]; omega
    · have q1 : ¬ (k : Int) < (n : Int) := by omega
      go_wp2
      go_end0
      obtain ⟨A, hA⟩ := HR.out
      have e1 : zs.take k = zs := List.take_of_length_le (by rw [H0.out.1]; omega)
      have e2 : zs.drop k = [] := List.drop_eq_nil_of_le (by rw [H0.out.1]; omega)
      have h1 := hA.p
      have h2 := hA.z
      rw [e1] at h1
      rw [e2, List.append_nil] at h2
      exact ⟨rfl, A, h1, hA.s, h2, hA.b⟩
set_option maxHeartbeats 1000000 in
theorem stable_any (w1 W : World) (g cap n Bx sb so sc : Nat) (ss : List Int) (zs : List Nat) (hs : ScL w1 Bx sb so sc ss) (hz : Zb W g (cz zs)) (hn : zs.length = n) (hn1 : n ≤ 19) (hn2 : n ≤ cap) (hlt : ∀ z ∈ zs, z < ss.length) (hasc : zs.Pairwise (· < ·)) (hb : RowKit.Below w1.heap.size w1 W) (hg : w1.heap.size ≤ g) :
    Calls Tryz.prog 121 #[.slice (some ⟨g, 0, none⟩) n cap, .int .i64 (n : Int), .func (.func 79) #[] #[.pointer (some ⟨Bx, 0, none⟩)]] W fun e w' => e = .returned (.tuple #[]) ∧ IsoIs w1 g ss zs w' := by
  have HC := hidV (isort_any w1 W g cap n Bx sb so sc ss zs hs hz hn (by omega) hn2 hlt hasc hb hg)
  have q1 : ¬ (20 : Int) ≤ (n : Int) := by omega
  have q2 : ¬ (20 : Int) < (n : Int) := by omega
  clear hs hz hb hlt hasc hn hg
  go_enter Tryz.func121, Tryz.ntmps121
  go_wp2
  go_loopw [7, 8] (fun a j wr => a = .int .i64 0 ∧ j = .int .i64 20 ∧ wr = W) (fun _ _ _ => 0)
  case atStart => exact ⟨rfl, rfl, rfl⟩
  case round =>
    obtain ⟨rfl, rfl, rfl⟩ := hrel
    go_wp2_with (go_at_call 138; go_loud (refine HC.out.mono ?_; rintro e w2 ⟨rfl, hh⟩; have HH := hidV hh; clear hh))
    go_loopw [6] (fun j wr => j = .int .i64 20 ∧ wr = w2) (fun _ _ => 0)
    case atStart => exact ⟨rfl, rfl⟩
    case round =>
      obtain ⟨rfl, rfl⟩ := hrel
      go_wp2
      go_end0
      exact ⟨rfl, HH.out⟩
theorem sortStable_any (w1 W : World) (g cap n Bx sb so sc : Nat) (ss : List Int) (zs : List Nat) (hs : ScL w1 Bx sb so sc ss) (hz : Zb W g (cz zs)) (hn : zs.length = n) (hn1 : n ≤ 19) (hn2 : n ≤ cap) (hlt : ∀ z ∈ zs, z < ss.length) (hasc : zs.Pairwise (· < ·)) (hb : RowKit.Below w1.heap.size w1 W) (hg : w1.heap.size ≤ g) :
    Calls Tryz.prog 101 #[.slice (some ⟨g, 0, none⟩) n cap, .func (.func 79) #[] #[.pointer (some ⟨Bx, 0, none⟩)]] W fun e w' => e = .returned (.tuple #[]) ∧ IsoIs w1 g ss zs w' := by
  have HC := hidV (stable_any w1 W g cap n Bx sb so sc ss zs hs hz hn hn1 hn2 hlt hasc hb hg)
  clear hs hz hb hlt hasc hn hg
  go_enter Tryz.func101, Tryz.ntmps101
  go_wp2_with (go_at_call 121; go_loud (refine HC.out.mono ?_; rintro e w2 ⟨rfl, hh⟩; have HH := hidV hh; clear hh))
  go_end0
  exact ⟨rfl, HH.out⟩
end Vr
end Go.Proofs.YtaejjpbpnedblaaGreat
namespace Go.Proofs.YtaejjpbpnedblaaGreat
namespace Vr
open Go.Shelf Go.RowKit Go.Lib Go.Sort Go.Maps Go.ChangeMaps Go.MapKept Laws Irw Crw
set_option linter.unusedVariables false
set_option linter.unusedSimpArgs false
set_option maxRecDepth 20000
theorem isort0 (a : Option Addr) (cap Bx : Nat) (W : World) :
    Calls Tryz.prog 138 #[.slice a 0 cap, .int .i64 0, .int .i64 0, .func (.func 79) #[] #[.pointer (some ⟨Bx, 0, none⟩)]] W fun e w' => e = .returned (.tuple #[]) ∧ w' = W := by
  go_enter Tryz.func138, Tryz.ntmps138
  go_wp2
  go_loopw [8] (fun i wr => i = .int .i64 1 ∧ wr = W) (fun _ _ => 0)
  case atStart => exact ⟨rfl, rfl⟩
  case round =>
    obtain ⟨rfl, rfl⟩ := hrel
    go_wp2
    go_end0
    exact ⟨rfl, rfl⟩
theorem stable0 (a : Option Addr) (cap Bx : Nat) (W : World) :
    Calls Tryz.prog 121 #[.slice a 0 cap, .int .i64 0, .func (.func 79) #[] #[.pointer (some ⟨Bx, 0, none⟩)]] W fun e w' => e = .returned (.tuple #[]) ∧ w' = W := by
  have HC := hidV (isort0 a cap Bx W)
  go_enter Tryz.func121, Tryz.ntmps121
  go_wp2
  go_loopw [7, 8] (fun a j wr => a = .int .i64 0 ∧ j = .int .i64 20 ∧ wr = W) (fun _ _ _ => 0)
  case atStart => exact ⟨rfl, rfl, rfl⟩
  case round =>
    obtain ⟨rfl, rfl, hww⟩ := hrel
    have hww' := hww.symm
    clear hww
    subst hww'
    go_wp2_with (go_at_call 138; go_loud (refine HC.out.mono ?_; rintro e w2 ⟨rfl, hw⟩; have hw := hw.symm; subst hw))
    go_loopw [6] (fun j wr => j = .int .i64 20 ∧ wr = W) (fun _ _ => 0)
    case atStart => exact ⟨rfl, rfl⟩
    case round =>
      obtain ⟨rfl, rfl⟩ := hrel
      go_wp2
      go_end0
      exact ⟨rfl, rfl⟩
theorem sortStable0 (a : Option Addr) (cap Bx : Nat) (W : World) :
    Calls Tryz.prog 101 #[.slice a 0 cap, .func (.func 79) #[] #[.pointer (some ⟨Bx, 0, none⟩)]] W fun e w' => e = .returned (.tuple #[]) ∧ w' = W := by
  have HC := hidV (stable0 a cap Bx W)
  go_enter Tryz.func101, Tryz.ntmps101
  go_wp2_with (go_at_call 121; go_loud (refine HC.out.mono ?_; rintro e w2 ⟨rfl, hw⟩; have hw := hw.symm; subst hw))
  go_end0
  exact ⟨rfl, rfl⟩
/-- levels as a list of ints -/
def zI (zs : List Nat) : List Int := zs.map fun (z : Nat) => (z : Int)
theorem zI_cells : ∀ zs : List Nat, kI.cells (zI zs) = cz zs
  | [] => rfl
  | a :: r => by
    show kI.cs (a : Int) ++ kI.cells (zI r) = _
    rw [zI_cells r]
    rfl
theorem zI_map (zs : List Nat) : (zI zs).map (Value.int .i64) = cz zs := by unfold zI cz; rw [List.map_map]; rfl
theorem ls_zI {w : World} {g cap n : Nat} {zs : List Nat} (h : Zb w g (cz zs)) (hn : zs.length = n) (hc : n ≤ cap) : Ls kI w (some ⟨g, 0, none⟩, n, cap) (zI zs) := by
  refine ⟨isK_zb (by rw [zI_cells]; exact h), by unfold zI; rw [List.length_map]; exact hn.symm, by simp, ?_, .inr ⟨_, _, rfl⟩⟩
  show (zI zs).length ≤ cap
  unfold zI
  rw [List.length_map]
  omega
/-- levels are answered, in order -/
def SdIs (w : World) (ss : List Int) (zs : List Nat) (e : Ending) (w' : World) : Prop := ∃ (s : Sv) (zs' : List Nat), e = .returned (svV s) ∧ zs'.Perm zs ∧ zs'.Pairwise (rk ss) ∧ Ls kI w' s (zI zs') ∧ RowKit.Below w.heap.size w w'
theorem row_slice {base : Nat} {w : World} {v : Value} {xs : List Value} {n : Nat} {e : TypeId} (h : w.ownsRow base e 1 v n xs) : ∃ a cap, v = .slice a n cap ∧ (a = none → cap = 0) ∧ Fm (a, n, cap) := by
  rcases h.2 with ⟨h1, h2⟩ | ⟨g, cap, cur, hv, hb, hh, hc, hmx, hs, ht⟩
  · subst h2
    exact ⟨none, 0, h1, fun _ => rfl, .inl rfl⟩
  · exact ⟨_, cap, hv, (fun e => by cases e), .inr ⟨_, _, rfl⟩⟩
set_option maxHeartbeats 1000000 in
theorem sortedS_any (w : World) (Bs : Nat) (a : Option Addr) (lc n Bx sb so sc : Nat) (ss : List Int) (zs : List Nat) (hs : ScL w Bx sb so sc ss) (hBs : Bs < w.heap.size) (hc : w.cell? ⟨Bs, 0, none⟩ = some (.slice a n lc)) (hn : zs.length = n) (hn1 : n ≤ 19) (hcs : ∀ j, j < n → ∃ b off, a = some ⟨b, off, none⟩ ∧ b < w.heap.size ∧ w.cell? ⟨b, off + j, none⟩ = some (.int .i64 ((zI zs)[j]?.getD 0))) (hlt : ∀ z ∈ zs, z < ss.length) (hasc : zs.Pairwise (· < ·)) :
    Calls Tryz.prog 77 #[.func (.func 102) #[] #[.pointer (some ⟨Bs, 0, none⟩)], .func (.func 79) #[] #[.pointer (some ⟨Bx, 0, none⟩)]] w fun e w' => SdIs w ss zs e w' := by
  have hzl : (zI zs).length = n := by unfold zI; rw [List.length_map]; exact hn
  have HK : Hid (Calls Tryz.prog 100 #[.func (.func 102) #[] #[.pointer (some ⟨Bs, 0, none⟩)]] w fun e w' => ∃ v, e = .returned v ∧ w'.ownsRow w.heap.size 3 1 v n (cz zs) ∧ RowKit.Below w.heap.size w w') :=
    (gcollectI Bs a lc (zI zs) (by omega) w hBs (by rw [hzl]; exact hc) (fun j hj => hcs j (by omega))).mono fun e w' ⟨v, he, ho, hb⟩ => by
      rw [hzl, zI_map] at ho
      exact ⟨v, he, ho, hb⟩
  have H0 : Hid (ScL w Bx sb so sc ss ∧ zs.length = n ∧ (∀ z ∈ zs, z < ss.length) ∧ zs.Pairwise (· < ·)) := ⟨hs, hn, hlt, hasc⟩
  clear hs hc hcs hn hlt hasc hzl
  go_enter Tryz.func77, Tryz.ntmps77
  by_cases h0 : n = 0
  · subst h0
    go_wp2_with (first
      | (go_at_call 100; go_loud (refine HK.out.mono ?_; rintro e w2 ⟨v, rfl, ho, hb2⟩; obtain ⟨a2, cap2, rfl, hnc, hfm⟩ := row_slice ho; have HB2 := hidV (And.intro hb2 (And.intro hnc hfm)); clear ho hb2 hnc hfm))
      | (go_at_call 101; go_loud (refine (sortStable0 _ _ _ _).mono ?_; rintro e w3 ⟨rfl, hw⟩; have hw := hw.symm; subst hw)))
    go_ret
    have hz : zs = [] := List.length_eq_zero_iff.1 H0.out.2.1
    subst hz
    exact ⟨(a2, 0, cap2), [], rfl, List.Perm.refl _, List.Pairwise.nil, ⟨IsK.nil _ _, rfl, HB2.out.2.1, Nat.zero_le _, HB2.out.2.2⟩, HB2.out.1⟩
  · have h0' : 0 < n := by omega
    go_wp2_with (first
      | (go_at_call 100; go_loud (refine HK.out.mono ?_; rintro e w2 ⟨v, rfl, ho, hb2⟩; obtain ⟨g, cap, rfl, hg, hcap, hz2⟩ := own3 ho h0'; have HB2 := hidV (And.intro hz2 (And.intro hb2 hg)); clear ho hb2 hz2 hg))
      | (go_at_call 101; go_loud (refine (sortStable_any w w2 g cap n Bx sb so sc ss zs H0.out.1 HB2.out.1 H0.out.2.1 hn1 hcap H0.out.2.2.1 H0.out.2.2.2 HB2.out.2.1 HB2.out.2.2).mono ?_; rintro e w3 ⟨rfl, hh⟩; have HH := hidV hh; clear hh)))
    go_ret
    obtain ⟨zs', h1, h2, h3, h4⟩ := HH.out
    exact ⟨(some ⟨g, 0, none⟩, n, cap), zs', rfl, h1, h2, ls_zI h3 (h1.length_eq.trans H0.out.2.1) hcap, h4⟩
def dueK (ss : List Int) (k : Nat) : List Nat := (List.range k).filter fun i => decide (1000 ≤ scA ss i)
def dueL (ss : List Int) : List Nat := dueK ss ss.length
theorem dueK_len (ss : List Int) (k : Nat) : (dueK ss k).length ≤ k := by
  unfold dueK
  refine Nat.le_trans (List.length_filter_le _ _) ?_
  rw [List.length_range]
  exact Nat.le_refl _
theorem dueK_yes {ss : List Int} {k : Nat} (h : 1000 ≤ scA ss k) : zI (dueK ss (k + 1)) = zI (dueK ss k) ++ [(k : Int)] := by
  unfold dueK zI
  rw [List.range_succ, List.filter_append, List.map_append]
  simp [h]
theorem dueK_no {ss : List Int} {k : Nat} (h : ¬ 1000 ≤ scA ss k) : dueK ss (k + 1) = dueK ss k := by
  unfold dueK
  rw [List.range_succ, List.filter_append]
  simp [h]
theorem dueK_lt {ss : List Int} {k : Nat} : ∀ z ∈ dueK ss k, z < k := fun z hz => by
  unfold dueK at hz
  have := (List.mem_filter.1 hz).1
  exact List.mem_range.1 this
theorem dueK_asc (ss : List Int) (k : Nat) : (dueK ss k).Pairwise (· < ·) := List.Pairwise.filter _ List.pairwise_lt_range
theorem zI_len (zs : List Nat) : (zI zs).length = zs.length := by unfold zI; rw [List.length_map]
theorem zI_getD {zs : List Nat} {j z : Nat} (h : zs[j]? = some z) : (zI zs)[j]?.getD 0 = (z : Int) := by unfold zI; rw [List.getElem?_map, h]; rfl
set_option maxHeartbeats 4000000 in
theorem due_any (w : World) (sb so n sc : Nat) (ss : List Int) (hs : ∀ (i : Nat) (x : Int), ss[i]? = some x → w.cell? ⟨sb, so + i, none⟩ = some (.int .i64 x)) (hn : ss.length = n) (hn1 : n ≤ 19) :
    Calls Tryz.prog 55 #[.slice (some ⟨sb, so, none⟩) n sc] w fun e w' => SdIs w ss (dueL ss) e w' := by
  obtain ⟨iz, hi, hz0, hz1, hz2⟩ := info_parts infoI
  have HB0 : Hid (RowKit.Below w.heap.size w (w.alloc (Obj.cells #[.slice (some ⟨sb, so, none⟩) n sc] 35)) ∧ Zb (w.alloc (Obj.cells #[.slice (some ⟨sb, so, none⟩) n sc] 35)) w.heap.size [.slice (some ⟨sb, so, none⟩) n sc]) := ⟨(Below.refl _ _).alloc (Nat.le_refl _) _, Zb.new w #[.slice (some ⟨sb, so, none⟩) n sc] 35⟩
  have HS : Hid ((∀ (i : Nat) (x : Int), ss[i]? = some x → w.cell? ⟨sb, so + i, none⟩ = some (.int .i64 x)) ∧ ss.length = n) := ⟨hs, hn⟩
  clear hs hn
  go_enter Tryz.func55, Tryz.ntmps55
  go_wp2
  generalize hW1 : w.alloc (Obj.cells #[.slice (some ⟨sb, so, none⟩) n sc] 35) = w1 at *
  clear hW1
  go_loopw [3, 8] (fun o i wr => ∃ (k : Nat) (s : Sv) (T : Nat → Nat), k ≤ n ∧ o = .slice s.1 s.2.1 s.2.2 ∧ i = .int .i64 (k : Int) ∧ Hid (Old w1 T wr ∧ OwnK kI 1 T wr (svV s) (zI (dueK ss k)))) (fun _ i _ => n - (intOf i).toNat)
  case atStart => exact ⟨0, nS, fun _ => 0, by omega, rfl, rfl, Old.first w1, OwnK.empty _ _ _⟩
  case round =>
    obtain ⟨k, ⟨ra, rn, rc⟩, T, hk, rfl, rfl, HX⟩ := hrel
    simp only at *
    by_cases hlt : k < n
    · have q1 : (k : Int) < (n : Int) := by omega
      have hgk : ss[k]? = some (scA ss k) := scA_at (by rw [HS.out.2]; exact hlt)
      have hbw := HB0.out.1.trans (HX.out.1.below.mono HB0.out.1.size)
      have hx : wr.cell? ⟨sb, so + k, none⟩ = some (.int .i64 (scA ss k)) := by
        have h1 := HS.out.1 k _ hgk
        exact (hbw.cell (p := ⟨sb, so + k, none⟩) (World.block_lt_of_cell? w _ h1)).trans h1
      clear hgk hbw
      by_cases hdue : 1000 ≤ scA ss k
      · have q2 : scA ss k ≥ 1000 := hdue
        have HF : Hid (zI (dueK ss (k + 1)) = zI (dueK ss k) ++ [(k : Int)]) := dueK_yes hdue
        have hdl : (zI (dueK ss k)).length ≤ 19 := by rw [zI_len]; have := dueK_len ss k; omega
        clear hdue
        generalize scA ss k = x at *
        go_wp2_with ((at_builtin; go_loud (refine wpList_appK kI _ (by rfl) (.tmp 15) (.tmp 17) 35 (by rfl) iz Tryz.underlying35 hi hz0 hz1 hz2 1 T (.slice ra rn rc) (zI (dueK ss k)) (by rfl) (HX.out.2.below ((Below.refl _ _).alloc (Nat.le_refl _) _)) (some ⟨wr.heap.size, 0, none⟩) 1 1 [(k : Int)] (by rfl) rfl (by simp) (isK_int _ _) (by simp; omega) ?_; intro a' c' T' w3 ho3 hg3; have HY : Hid (OwnK kI 1 T' w3 (.slice a' ((zI (dueK ss k)).length + 1) c') (zI (dueK ss k) ++ [(k : Int)]) ∧ Goes (· = 1) T wr T' w3) := ⟨ho3, (Goes.below (t := (· = 1)) ((Below.refl _ _).alloc (Nat.le_refl _) _)).trans hg3⟩; clear ho3 hg3; simp only [List.length_singleton])))
        go_roundw
        case rel =>
          refine ⟨k + 1, (a', (zI (dueK ss k)).length + 1, c'), T', by omega, rfl, by go_num, HX.out.1.goes HY.out.2 (by decide), ?_⟩
          have h3 := HY.out.1
          rw [HF.out]
          exact h3
        case measure => simp [intOf]; omega
      · have q2 : ¬ scA ss k ≥ 1000 := hdue
        have HF : Hid (dueK ss (k + 1) = dueK ss k) := dueK_no hdue
        clear hdue
        generalize scA ss k = x at *
        go_wp2
        go_roundw
        case rel => exact ⟨k + 1, (ra, rn, rc), T, by omega, rfl, by go_num, HX.out.1, by rw [HF.out]; exact HX.out.2⟩
        case measure => simp [intOf]; omega
    · obtain rfl : k = n := by omega
      have q1 : ¬ (k : Int) < (k : Int) := by omega
      have hls := Ls.own HX.out.2
      have hrn : rn = (dueK ss k).length := by have := hls.2.1; rw [zI_len] at this; exact this
      have HL := hidV hls
      have HBW : Hid (RowKit.Below w.heap.size w wr ∧ RowKit.Below w1.heap.size w1 wr) := ⟨HB0.out.1.trans (HX.out.1.below.mono HB0.out.1.size), HX.out.1.below⟩
      have HC : Hid (Calls Tryz.prog 77 #[.func (.func 102) #[] #[.pointer (some ⟨wr.heap.size, 0, none⟩)], .func (.func 79) #[] #[.pointer (some ⟨w.heap.size, 0, none⟩)]] (wr.alloc (.cells #[.slice ra rn rc] 35)) fun e w' => SdIs w ss (dueL ss) e w') := by
        have hb9 : RowKit.Below wr.heap.size wr (wr.alloc (.cells #[.slice ra rn rc] 35)) := (Below.refl _ _).alloc (Nat.le_refl _) _
        have hb8 := HBW.out.1.trans (hb9.mono HBW.out.1.size)
        have hsc : ScL (wr.alloc (.cells #[.slice ra rn rc] 35)) w.heap.size sb so sc ss := by
          refine ⟨?_, fun i x hi => ?_⟩
          · rw [HS.out.2]
            exact ((HB0.out.2.below HBW.out.2).below hb9).2.1 0 _ rfl
          · have h1 := HS.out.1 i x hi
            exact (hb8.cell (p := ⟨sb, so + i, none⟩) (World.block_lt_of_cell? w _ h1)).trans h1
        have hdd : dueL ss = dueK ss k := by unfold dueL; rw [HS.out.2]
        refine (sortedS_any _ wr.heap.size ra rc rn w.heap.size sb so sc ss (dueL ss) hsc (by simp) ((Zb.new wr #[.slice ra rn rc] 35).2.1 0 _ rfl) (by rw [hdd]; exact hrn.symm) (by have := dueK_len ss k; omega) (fun j hj => ?_) (fun z hz => by rw [hdd] at hz; have := dueK_lt z hz; rw [HS.out.2]; exact this) (by rw [hdd]; exact dueK_asc ss k)).mono ?_
        · obtain ⟨z, hz⟩ : ∃ z, (dueK ss k)[j]? = some z := ⟨_, List.getElem?_eq_getElem (by omega)⟩
          obtain ⟨b, off, e, hb, hcell⟩ := (hls.below hb9).cell (i := j) (x := (z : Int)) (by unfold zI; rw [List.getElem?_map, hz]; rfl)
          refine ⟨b, off, e, hb, ?_⟩
          rw [hdd, zI_getD hz]
          have := hcell 0 _ rfl
          simpa [kI] using this
        · rintro e w' ⟨s, zs', he, h1, h2, h3, h4⟩
          exact ⟨s, zs', he, h1, h2, h3, hb8.trans (h4.mono hb8.size)⟩
      clear HX hls hrn
      go_wp2_with (first
        | (go_at_call 78; go_loud (refine (valuesI _ _ _ _).mono ?_; rintro e w8 ⟨rfl, rfl⟩))
        | (go_at_call 77; go_loud (refine HC.out.mono ?_; rintro e w9 ⟨s9, zs9, rfl, hh9⟩; have HH := hidV hh9; clear hh9; unfold svV)))
      go_ret
      exact ⟨s9, zs9, rfl, HH.out⟩
end Vr
end Go.Proofs.YtaejjpbpnedblaaGreat
namespace Go.Proofs.YtaejjpbpnedblaaGreat
namespace Vr
open Go.Shelf Go.RowKit Go.Lib Go.Sort Go.Maps Go.ChangeMaps Go.MapKept Laws Irw Crw
set_option linter.unusedVariables false
set_option linter.unusedSimpArgs false
set_option maxRecDepth 20000
theorem kI_cells : ∀ l : List Int, kI.cells l = l.map (Value.int .i64)
  | [] => rfl
  | a :: r => by
    show kI.cs a ++ kI.cells r = _
    rw [kI_cells r]
    rfl
theorem own_one (w : World) (x : Int) : OwnK kI 1 (Irw.upd (fun _ => 0) w.heap.size 1) (w.alloc (.cells #[.int .i64 x] 3)) (.slice (some ⟨w.heap.size, 0, none⟩) 1 1) [x] ∧ Old w (Irw.upd (fun _ => 0) w.heap.size 1) (w.alloc (.cells #[.int .i64 x] 3)) := by
  refine ⟨⟨⟨rfl, .inr ⟨w.heap.size, 1, #[.int .i64 x], rfl, Nat.zero_le _, World.alloc_heap_new w _, Nat.le_refl _, by unfold maxLen; omega, rfl, rfl⟩⟩, fun g e => ?_⟩, (Below.refl _ _).alloc (Nat.le_refl _) _, fun b hb => ?_⟩
  · simp only [Value.ownBlock, Option.some.injEq] at e
    subst e
    exact Irw.upd_same _ _ _
  · refine Irw.upd_other _ _ ?_
    simp at hb
    omega
/-- level 0 is full -/
def ordL (c : Cf) (V : Lv) (zs : List Nat) : List Nat := if c 7 ≤ ((lev V 0).length : Int) then 0 :: zs.filter (fun z => decide (z ≠ 0)) else zs
def OdIs (c : Cf) (V : Lv) (w : World) (e : Ending) (w' : World) : Prop := ∃ (s : Sv) (zs : List Nat), e = .returned (svV s) ∧ zs.Perm (dueL (scs c V)) ∧ zs.Pairwise (rk (scs c V)) ∧ Ls kI w' s (zI (ordL c V zs)) ∧ RowKit.Below w.heap.size w w'
def odK (zs : List Nat) (k : Nat) : List Nat := 0 :: (zs.take k).filter (fun z => decide (z ≠ 0))
theorem ord_yes {zs : List Nat} {k z : Nat} (hz : zs[k]? = some z) (h : z ≠ 0) : zI (odK zs (k + 1)) = zI (odK zs k) ++ [(z : Int)] := by
  unfold odK
  rw [List.take_add_one, hz, List.filter_append]
  unfold zI
  simp [h]
theorem ord_no {zs : List Nat} {k : Nat} (hz : zs[k]? = some 0) : odK zs (k + 1) = odK zs k := by
  unfold odK
  rw [List.take_add_one, hz, List.filter_append]
  simp
set_option maxHeartbeats 4000000 in
theorem orderL_any (c : Cf) (vb : Nat) (V : Lv) (w : World) (h : VAt w vb V) (hw : WeV V) (hc : Cr c V.length) :
    Calls Tryz.prog 14 #[.agg (cfgA c), .pointer (some ⟨vb, 0, none⟩)] w fun e w' => OdIs c V w e w' := by
  obtain ⟨iz, hi, hz0, hz1, hz2⟩ := info_parts infoI
  have hn3 := hc.n3
  have hn5 := hc.n5
  have hL0 := lc_new w c 23
  have HB0 : Hid (RowKit.Below w.heap.size w (w.alloc (Obj.cells (cfgA c) 23)) ∧ Lc (w.alloc (Obj.cells (cfgA c) 23)) w.heap.size c) := ⟨(Below.refl _ _).alloc (Nat.le_refl _) _, hL0⟩
  obtain ⟨n, hn⟩ : ∃ n, (scs c V).length = n := ⟨_, rfl⟩
  have hn2 : 2 ≤ n ∧ n ≤ 4 := by rw [scs_len] at hn; omega
  obtain ⟨hn2, hn4⟩ := hn2
  have HSc : Hid (Calls Tryz.prog 15 #[.agg (cfgA c), .pointer (some ⟨vb, 0, none⟩)] (w.alloc (Obj.cells (cfgA c) 23)) fun e w' => ∃ sb cap, e = .returned (.slice (some ⟨sb, 0, none⟩) n cap) ∧ (∀ (i : Nat) (x : Int), (scs c V)[i]? = some x → w'.cell? ⟨sb, 0 + i, none⟩ = some (.int .i64 x)) ∧ RowKit.Below (w.alloc (Obj.cells (cfgA c) 23)).heap.size (w.alloc (Obj.cells (cfgA c) 23)) w') := by
    refine (scores_any c vb V _ (h.below HB0.out.1) hw hc).mono ?_
    rintro e w' ⟨s, T, rfl, ho, hold⟩
    obtain ⟨g, cap, hv, _, _, hz⟩ := own3 ho.1 (by omega)
    rw [hv, hn]
    refine ⟨g, cap, rfl, fun i x hx => ?_, hold.below⟩
    rw [Nat.zero_add]
    refine hz.2.1 i _ ?_
    rw [kI_cells, List.getElem?_map, hx]
    rfl
  obtain ⟨m, hm⟩ : ∃ m, (lev V 0).length = m := ⟨_, rfl⟩
  have HTb : Hid (∀ W, RowKit.Below w.heap.size w W → Calls Tryz.prog 16 #[.pointer (some ⟨vb, 0, none⟩), .int .i64 0] W fun e w' => ∃ a c, e = .returned (.slice a m c) ∧ RowKit.Below W.heap.size W w') := fun W hb => (tables_any vb V 0 W (h.below hb)).mono fun e w' ⟨s, he, hnw, hb2⟩ => by
    obtain ⟨g, hs, _⟩ := hnw
    rw [he, hs, hm]
    exact ⟨_, _, rfl, hb2⟩
  have HNM : Hid ((scs c V).length = n ∧ (lev V 0).length = m) := ⟨hn, hm⟩
  have hn0 : ¬ n = 0 := by omega
  have hn0i : ¬ (n : Int) = 0 := by omega
  have hn0b : ((n : Int) == 0) = false := by simp [hn0]
  clear h hw hc hn hm
  go_enter Tryz.func14, Tryz.ntmps14
  go_upto_region 3 with (first
    | (refine wpList_cfg (by rfl) _ (by rfl) (by rfl) hL0 ?_)
    | (go_at_call 15; go_loud (refine HSc.out.mono ?_; rintro e w1 ⟨sb, cap1, rfl, hs1, hb1⟩; have HS1 := hidV (And.intro hs1 (HB0.out.1.trans (hb1.mono HB0.out.1.size))); have HB1 := hidV hb1; clear hs1 hb1))
    | (go_at_call 55; go_loud (refine (due_any w1 sb 0 n cap1 (scs c V) HS1.out.1 HNM.out.1 (by omega)).mono ?_; rintro e w2 ⟨⟨a2, n2, c2⟩, zs, rfl, hp2, hs2, hl2, hb2⟩; have HZ2 := hidV (And.intro hl2 (HS1.out.2.trans (hb2.mono HS1.out.2.size))); have HB2 := hidV hb2; have HPS := hidV (And.intro hp2 hs2); clear hl2 hb2 hp2 hs2; unfold svV)))
  have hL2 : Lc w2 w.heap.size c := (HB0.out.2.keep (by simp) HB1.out).keep (by have := HB1.out.size; simp at this; omega) HB2.out
  have hz2' : w.heap.size < w2.heap.size := by have h1 := HB1.out.size; have h2 := HB2.out.size; simp at h1; omega
  have HL2 := hidV (And.intro hL2 hz2')
  have c7 : w2.cell? ⟨w.heap.size, 7, none⟩ = some (.int .i64 (c 7)) := hL2.cell 7 rfl
  have hn2l : n2 = zs.length := by have := HZ2.out.1.2.1; rw [zI_len] at this; exact this
  have HN2 := hidV hn2l
  have hzl : zs.length ≤ 19 := by
    rw [HPS.out.1.length_eq]
    have := dueK_len (scs c V) (scs c V).length
    have e := HNM.out.1
    unfold dueL
    omega
  clear hL0 hL2 hn2l
  go_cut [25] (fun v wx => v = .bool (decide ((m : Int) < c 7)) ∧ Hid (RowKit.Below w2.heap.size w2 wx))
  case first =>
    go_region_with (go_at_call 16; go_loud (refine (HTb.out _ (bl_dn HZ2.out.2 1)).mono ?_; rintro e w3 ⟨a3, c3, rfl, hb3⟩; have HB3 : Hid (RowKit.Below w2.heap.size w2 w3) := (bl_dn (Below.refl _ _) 1).trans hb3; have d7 : w3.cell? ⟨w.heap.size, 7, none⟩ = some (.int .i64 (c 7)) := (HB3.out.cell (p := ⟨w.heap.size, 7, none⟩) hz2').trans c7; clear hb3))
    all_goals (
      go_wp2_with fail
      go_meet
      case rel => exact ⟨by first | rfl | simp, HB3⟩)
  case rest =>
    obtain ⟨rfl, HB3⟩ := hcut
    rename World => w3
    have HBW : Hid (RowKit.Below w.heap.size w w3) := HZ2.out.2.trans (HB3.out.mono HZ2.out.2.size)
    have HL3 : Hid (Ls kI w3 (a2, n2, c2) (zI zs)) := HZ2.out.1.below HB3.out
    clear c7 HB3 HZ2 HB2 HSc HTb
    by_cases hst : (m : Int) < c 7
    · have hd : decide ((m : Int) < c 7) = true := decide_eq_true hst
      have HO : Hid (ordL c V zs = zs) := by
        show _ = _
        unfold ordL
        rw [if_neg (by rw [HNM.out.2]; omega)]
      go_wp2_with fail
      go_ret
      exact ⟨(a2, n2, c2), zs, rfl, HPS.out.1, HPS.out.2, by rw [HO.out]; exact HL3.out, HBW.out⟩
    · have hd : decide ((m : Int) < c 7) = false := decide_eq_false hst
      have HO : Hid (ordL c V zs = 0 :: zs.filter (fun z => decide (z ≠ 0))) := by
        show _ = _
        unfold ordL
        rw [if_pos (by rw [HNM.out.2]; omega)]
      have hn2l := HN2.out
      subst hn2l
      have H1 := hidV (own_one w3 0)
      have hst2 : c 7 ≤ (m : Int) := by omega
      go_wp2_with fail
      go_loopw [7, 30] (fun o i wr => ∃ (k : Nat) (s : Sv) (T : Nat → Nat), k ≤ zs.length ∧ o = .slice s.1 s.2.1 s.2.2 ∧ i = .int .i64 (k : Int) ∧ Hid (Old w3 T wr ∧ OwnK kI 1 T wr (svV s) (zI (odK zs k)))) (fun _ i _ => zs.length - (intOf i).toNat)
      case atStart => exact ⟨0, (some ⟨w3.heap.size, 0, none⟩, 1, 1), _, Nat.zero_le _, rfl, rfl, H1.out.2, H1.out.1⟩
      case round =>
        clear H1
        obtain ⟨k, ⟨ra, rn, rc⟩, T, hk, rfl, rfl, HX⟩ := hrel
        simp only at *
        by_cases hlt : k < zs.length
        · have q1 : (k : Int) < (zs.length : Int) := by omega
          obtain ⟨z, hz⟩ : ∃ z, zs[k]? = some z := ⟨_, List.getElem?_eq_getElem hlt⟩
          have HZk := hidV hz
          obtain ⟨b, off, rfl, hb, hcell⟩ := (HL3.out.below HX.out.1.below).cell (i := k) (x := (z : Int)) (by unfold zI; rw [List.getElem?_map, hz]; rfl)
          have hc0 : wr.cell? ⟨b, off + k, none⟩ = some (.int .i64 (z : Int)) := by
            have := hcell 0 _ rfl
            simpa [kI] using this
          clear hcell hz hb
          by_cases hzz : z = 0
          · subst hzz
            go_wp2
            go_roundw
            case rel => exact ⟨k + 1, (ra, rn, rc), T, by omega, rfl, by go_num, HX.out.1, by rw [ord_no HZk.out]; exact HX.out.2⟩
            case measure => simp [intOf]; omega
          · have hzz' : ¬ (z : Int) = 0 := by omega
            have HF := hidV (ord_yes HZk.out hzz)
            have hdl : (zI (odK zs k)).length ≤ 30 := by
              rw [zI_len]
              unfold odK
              rw [List.length_cons]
              have := List.length_filter_le (fun z => decide (z ≠ 0)) (zs.take k)
              rw [List.length_take] at this
              omega
            go_wp2_with ((at_builtin; go_loud (refine wpList_appK kI _ (by rfl) (.tmp 36) (.tmp 38) 35 (by rfl) iz Tryz.underlying35 hi hz0 hz1 hz2 1 T (.slice ra rn rc) (zI (odK zs k)) (by rfl) (HX.out.2.below ((Below.refl _ _).alloc (Nat.le_refl _) _)) (some ⟨wr.heap.size, 0, none⟩) 1 1 [(z : Int)] (by rfl) rfl (by simp) (isK_int _ _) (by simp; omega) ?_; intro a' c' T' w4 ho4 hg4; have HY : Hid (OwnK kI 1 T' w4 (.slice a' ((zI (odK zs k)).length + 1) c') (zI (odK zs k) ++ [(z : Int)]) ∧ Goes (· = 1) T wr T' w4) := ⟨ho4, (Goes.below (t := (· = 1)) ((Below.refl _ _).alloc (Nat.le_refl _) _)).trans hg4⟩; clear ho4 hg4; simp only [List.length_singleton])))
            go_roundw
            case rel =>
              refine ⟨k + 1, (a', (zI (odK zs k)).length + 1, c'), T', by omega, rfl, by go_num, HX.out.1.goes HY.out.2 (by decide), ?_⟩
              rw [HF.out]
              exact HY.out.1
            case measure => simp [intOf]; omega
        · have hk' : k = zs.length := by omega
          have q1 : ¬ (k : Int) < (zs.length : Int) := by omega
          have HE : Hid (odK zs k = 0 :: zs.filter (fun z => decide (z ≠ 0))) := by
            show _ = _
            unfold odK
            rw [List.take_of_length_le (by omega)]
          go_wp2
          go_ret
          refine ⟨(ra, rn, rc), zs, rfl, HPS.out.1, HPS.out.2, ?_, HBW.out.trans (HX.out.1.below.mono HBW.out.size)⟩
          rw [HO.out, ← HE.out]
          exact Ls.own HX.out.2
end Vr
end Go.Proofs.YtaejjpbpnedblaaGreat
