import Derived.Test.YtecgecolghgjoaaZr
namespace Go.Proofs.Ytecgecolghgjoaa
namespace Vr
open Go.Shelf Go.RowKit Go.Lib Go.Sort Go.Maps Go.ChangeMaps Go.MapKept Laws Irw Crw
set_option linter.unusedVariables false
set_option linter.unusedSimpArgs false
set_option maxRecDepth 20000
/-- a list that is laid out at once -/
theorem isK_alloc {α : Type} (K : Knd α) (w : World) (l : List α) (t : TypeId) (cs : Array Value) (hcs : cs.toList = K.cells l) : IsK K (w.alloc (.cells cs t)) (some ⟨w.heap.size, 0, none⟩) l := by
  have h := Zb.new w cs t
  refine IsK.of ⟨h.1, fun i e he j u hu => ?_⟩
  have hj : j < K.size := by rw [← K.len e]; exact (List.getElem?_eq_some_iff.1 hu).1
  have hg := K.cells_get l i e he j hj
  rw [hu, ← hcs] at hg
  have := h.2.1 _ u hg
  simpa using this
theorem ls_alloc {α : Type} (K : Knd α) (w : World) (l : List α) (t : TypeId) (cs : Array Value) (n : Nat) (hcs : cs.toList = K.cells l) (hn : l.length = n) : Ls K (w.alloc (.cells cs t)) (some ⟨w.heap.size, 0, none⟩, n, n) l :=
  ⟨isK_alloc K w l t cs hcs, hn.symm, fun e => (by cases e), (by rw [hn]; exact Nat.le_refl _), Or.inr ⟨_, _, rfl⟩⟩
theorem isk_of {α : Type} {K : Knd α} {T : Nat → Nat} {w : World} {b n c : Nat} {l : List α} (h : Ls K w (some ⟨b, 0, none⟩, n, c) l) (ht : T b = 0) (hb : b < w.heap.size) : Isk K T w (some ⟨b, 0, none⟩, n, c) l :=
  ⟨h.1, h.2.1, h.2.2.1, h.2.2.2.1, h.2.2.2.2, fun b' off e => by cases e; exact ⟨ht, hb⟩⟩
set_option maxHeartbeats 2000000 in
theorem sameTables_true (a b : Option Addr) (ca cb n : Nat) (l : List Tb) (w : World) (ha : Ls kTb w (a, n, ca) l) (hb : Ls kTb w (b, n, cb) l) (hn : l.length = n) (hl : n ≤ 1000000) :
    Calls Try.prog 17 #[.slice a n ca, .slice b n cb] w fun e w' => e = .returned (.bool true) ∧ ∃ n, w' = w.drewN n := by
  have HA : Hid (Ls kTb w (a, n, ca) l) := ha
  have HB : Hid (Ls kTb w (b, n, cb) l) := hb
  have HNN : Hid (l.length = n) := hn
  clear ha hb hn
  go_enter Try.func17, Try.ntmps17
  go_wp2
  go_loopw [5] (fun i wr => ∃ k m : Nat, k ≤ n ∧ i = .int .i64 k ∧ wr = w.drewN m) (fun i _ => n - (intOf i).toNat)
  case atStart => exact ⟨0, 0, Nat.zero_le _, rfl, rfl⟩
  case round =>
    obtain ⟨k, m, hk, rfl, rfl⟩ := hrel
    by_cases hlt : k < n
    · have hlt' : k < l.length := by rw [HNN.out]; exact hlt
      obtain ⟨b1, o1, e1, hb1, hc1⟩ := HA.out.cell (List.getElem?_eq_getElem hlt')
      obtain ⟨b2, o2, e2, hb2, hc2⟩ := HB.out.cell (List.getElem?_eq_getElem hlt')
      change a = _ at e1
      change b = _ at e2
      subst e1 e2
      have x0 := hc1 0 _ rfl
      have x1 := hc1 1 _ rfl
      have x2 := hc1 2 _ rfl
      have x3 := hc1 3 _ rfl
      have x4 := hc1 4 _ rfl
      have x5 := hc1 5 _ rfl
      have y0 := hc2 0 _ rfl
      have y1 := hc2 1 _ rfl
      have y2 := hc2 2 _ rfl
      have y3 := hc2 3 _ rfl
      have y4 := hc2 4 _ rfl
      have y5 := hc2 5 _ rfl
      rw [show o1 + k * kTb.size + 0 = o1 + k * 6 from rfl] at x0
      rw [show o1 + k * kTb.size + 1 = o1 + k * 6 + 1 from rfl] at x1
      rw [show o1 + k * kTb.size + 2 = o1 + k * 6 + 2 from rfl] at x2
      rw [show o1 + k * kTb.size + 3 = o1 + k * 6 + 3 from rfl] at x3
      rw [show o1 + k * kTb.size + 4 = o1 + k * 6 + 4 from rfl] at x4
      rw [show o1 + k * kTb.size + 5 = o1 + k * 6 + 5 from rfl] at x5
      rw [show o2 + k * kTb.size + 0 = o2 + k * 6 from rfl] at y0
      rw [show o2 + k * kTb.size + 1 = o2 + k * 6 + 1 from rfl] at y1
      rw [show o2 + k * kTb.size + 2 = o2 + k * 6 + 2 from rfl] at y2
      rw [show o2 + k * kTb.size + 3 = o2 + k * 6 + 3 from rfl] at y3
      rw [show o2 + k * kTb.size + 4 = o2 + k * 6 + 4 from rfl] at y4
      rw [show o2 + k * kTb.size + 5 = o2 + k * 6 + 5 from rfl] at y5
      have q1 : (k : Int) < (n : Int) := by omega
      generalize l[k] = y at *
      obtain ⟨yn, yw, yb, ye, yl, yg⟩ := y
      dsimp only at x0 x1 x2 x3 x4 x5 y0 y1 y2 y3 y4 y5
      clear hc1 hc2 hlt'
      go_wp2
      go_quiet (fail)
      go_wp2
      go_roundw
      case rel => exact ⟨k + 1, _, by omega, by go_num, rfl⟩
      case measure => simp [intOf]; omega
    · have q1 : ¬ (k : Int) < (n : Int) := by omega
      go_wp2
      go_ret
      exact ⟨rfl, _, rfl⟩
theorem num_nil (n : Nat) : NumOk (List.replicate n []) := fun l hl t ht => by
  rw [List.eq_of_mem_replicate hl] at ht
  cases ht
theorem half_nil (n : Nat) : Half (List.replicate n []) := by
  have e : (List.replicate n ([] : List Tb)).flatten = [] := by simp
  refine ⟨by unfold nums; rw [e]; exact List.Pairwise.nil, fun l hl => ?_⟩
  rw [List.eq_of_mem_replicate hl]
  intro t ht
  cases ht
set_option maxHeartbeats 1000000 in
theorem sameNums_true (a b : Option Addr) (ca cb n : Nat) (l : List Int) (w : World) (ha : Ls kU w (a, n, ca) l) (hb : Ls kU w (b, n, cb) l) (hn : l.length = n) (hl : n ≤ 1000000000) :
    Calls Try.prog 19 #[.slice a n ca, .slice b n cb] w fun e w' => e = .returned (.bool true) ∧ ∃ n, w' = w.drewN n := by
  have HA : Hid (Ls kU w (a, n, ca) l) := ha
  have HB : Hid (Ls kU w (b, n, cb) l) := hb
  have HNN : Hid (l.length = n) := hn
  clear ha hb hn
  go_enter Try.func19, Try.ntmps19
  go_wp2
  go_loopw [5] (fun i wr => ∃ k m : Nat, k ≤ n ∧ i = .int .i64 k ∧ wr = w.drewN m) (fun i _ => n - (intOf i).toNat)
  case atStart => exact ⟨0, 0, Nat.zero_le _, rfl, rfl⟩
  case round =>
    obtain ⟨k, m, hk, rfl, rfl⟩ := hrel
    by_cases hlt : k < n
    · have hlt' : k < l.length := by rw [HNN.out]; exact hlt
      obtain ⟨b1, o1, e1, hb1, hc1⟩ := HA.out.cell (List.getElem?_eq_getElem hlt')
      obtain ⟨b2, o2, e2, hb2, hc2⟩ := HB.out.cell (List.getElem?_eq_getElem hlt')
      change a = _ at e1
      change b = _ at e2
      subst e1 e2
      have x0 := hc1 0 _ rfl
      have y0 := hc2 0 _ rfl
      rw [show o1 + k * kU.size + 0 = o1 + k by show o1 + k * 1 + 0 = o1 + k; omega] at x0
      rw [show o2 + k * kU.size + 0 = o2 + k by show o2 + k * 1 + 0 = o2 + k; omega] at y0
      have q1 : (k : Int) < (n : Int) := by omega
      generalize l[k] = y at *
      clear hc1 hc2 hlt'
      go_wp2
      go_quiet (fail)
      go_wp2
      go_roundw
      case rel => exact ⟨k + 1, m + nq, by omega, by go_num, rfl⟩
      case measure => simp [intOf]; omega
    · have q1 : ¬ (k : Int) < (n : Int) := by omega
      go_wp2
      go_ret
      exact ⟨rfl, m, rfl⟩
/-! the chapter's example -/
def kt1 : Tb := ⟨1, 0, 0, 0, ⟨#[97]⟩, ⟨#[99]⟩⟩
def kt2 : Tb := ⟨2, 0, 0, 0, ⟨#[98]⟩, ⟨#[100]⟩⟩
def kt3 : Tb := ⟨3, 0, 0, 0, ⟨#[97]⟩, ⟨#[98]⟩⟩
def kt4 : Tb := ⟨4, 0, 0, 0, ⟨#[97]⟩, ⟨#[99]⟩⟩
def kV0 : Lv := List.replicate 3 []
def kV1 : Lv := [[kt1, kt2], [kt3], []]
def kV2 : Lv := [[kt2], [kt4], []]
def kl1 : List Pi := [⟨0, kt1⟩, ⟨0, kt2⟩, ⟨1, kt3⟩]
def kl2 : List Pi := [⟨1, kt4⟩]
def kO2 : List Pc := [⟨0, 1⟩, ⟨1, 3⟩]
theorem srt1 (t : Tb) : srt [t] = [t] := by unfold srt; simp
theorem srt0 : srt [] = [] := by unfold srt; simp
theorem kedit1 : edit2 kV0 [] kl1 = .ok kV1 := by
  have h1 : takes 3 (prs kV0 0) [] = .ok [] := rfl
  have h2 : kV0.map (stay (([] : List (Nat × Nat)).map Prod.fst)) = kV0 := rfl
  have h3 : bring kV0 kl1 = .ok kV1 := by kernel_rfl
  unfold edit2
  rw [show kV0.length = 3 from rfl, h1]
  dsimp only
  rw [h2]
  refine (edit_ok h3 ?_).trans ?_
  · show ¬ (([[kt3], []] : Lv).map srt).any ovl = true
    simp only [List.map_cons, List.map_nil, srt1, srt0]
    decide
  · show Except.ok ([[kt1, kt2]] ++ ([[kt3], []] : Lv).map srt) = _
    simp only [List.map_cons, List.map_nil, srt1, srt0]
    rfl
theorem kedit2 : edit2 kV1 kO2 kl2 = .ok kV2 := by
  have h1 : takes 3 (prs kV1 0) kO2 = .ok [(2, 0)] := by kernel_rfl
  have h2 : kV1.map (stay ([(2, 0)].map Prod.fst)) = [[kt2], [], []] := by kernel_rfl
  have h3 : bring [[kt2], [], []] kl2 = .ok [[kt2], [kt4], []] := by kernel_rfl
  unfold edit2
  rw [show kV1.length = 3 from rfl, h1]
  dsimp only
  rw [h2]
  refine (edit_ok h3 ?_).trans ?_
  · show ¬ (([[kt4], []] : Lv).map srt).any ovl = true
    simp only [List.map_cons, List.map_nil, srt1, srt0]
    decide
  · show Except.ok ([[kt2]] ++ ([[kt4], []] : Lv).map srt) = _
    simp only [List.map_cons, List.map_nil, srt1, srt0]
    rfl
theorem kholds : holdsL kV1 0 ⟨#[98]⟩ = [kt2, kt1] := by kernel_rfl
/-- the one pin -/
theorem kpin (vb : Nat) : pinL vb kV1 [] = [⟨vb, 1, kV1⟩] := rfl
theorem isV_self (vb : Nat) (ti : Int) (V : Lv) : isV (some ⟨vb, 0, none⟩) ⟨vb, ti, V⟩ = true := by simp [isV]
theorem kfind (vb : Nat) : List.findIdx? (isV (some ⟨vb, 0, none⟩)) [(⟨vb, 1, kV1⟩ : Pn)] = some 0 := by
  simp [List.findIdx?_cons, isV_self]
theorem kgone (nb vb : Nat) : goneL nb kV2 [⟨vb, 1, kV1⟩] vb kV1 = [] := by
  unfold goneL idp
  rw [kfind]
  exact if_pos (.inr (show (0 : Int) ≤ ((0 : Nat) : Int) from Int.le_refl _))
theorem kunp (vb : Nat) : unpL (some ⟨vb, 0, none⟩) [⟨vb, 1, kV1⟩] = [] := by
  unfold unpL
  rw [kfind]
  rfl
theorem kunr (nb vb : Nat) (h : vb ≠ nb) : unpR (some ⟨vb, 0, none⟩) nb kV2 [⟨vb, 1, kV1⟩] = [1, 3] := by
  have e1 : goneL nb kV2 [] vb kV1 = [1, 3] := by
    have e2 : gl (allN kV2 []) (nums kV1) = [1, 3] := by kernel_rfl
    unfold goneL
    rw [if_neg (by rintro (h1 | h1); exact h h1; simp [idp] at h1), e2]
    exact List.mergeSort_of_pairwise (by simp)
  unfold unpR
  rw [kfind]
  dsimp only
  rw [kunp]
  exact e1
theorem kun2 (nb vb : Nat) : unpL (some ⟨vb, 0, none⟩) [] = [] ∧ unpR (some ⟨vb, 0, none⟩) nb kV2 [] = [] := ⟨rfl, rfl⟩
end Vr
end Go.Proofs.Ytecgecolghgjoaa
namespace Go.Proofs.Ytecgecolghgjoaa
namespace Vr
open Go.Shelf Go.RowKit Go.Lib Go.Sort Go.Maps Go.ChangeMaps Go.MapKept Laws Irw Crw
set_option linter.unusedVariables false
set_option linter.unusedSimpArgs false
set_option maxRecDepth 20000
def kpts : List ByteArray := [⟨#[]⟩, ⟨#[]⟩, ⟨#[]⟩]
theorem num13_any (x : Int) (w : World) : Calls Try.prog 10 #[.int .i64 x] w fun e w' => e = .returned (.int .i64 x) ∧ w' = w := by
  go_enter Try.func10, Try.ntmps10
  go_wp2
  go_ret
  exact ⟨rfl, rfl⟩
theorem zero_of {w w' : World} {T : Nat → Nat} (h : Old w T w') : ∀ b, w'.heap.size ≤ b → T b = 0 := fun b hb => h.zero b (.inr hb)
theorem kSz1 : Sz kV1 [] := by
  have E := edit2_facts kedit1 (half_nil 3) (num_nil 3) (by intro p hp; simp [kl1] at hp; rcases hp with rfl | rfl | rfl <;> decide)
  exact ⟨E.num, by decide, fun p hp => (by cases hp), Nat.zero_le _⟩
theorem kHalf1 : Half kV1 := (edit2_facts kedit1 (half_nil 3) (num_nil 3) (by intro p hp; simp [kl1] at hp; rcases hp with rfl | rfl | rfl <;> decide)).good.half
theorem kSz1p (vb : Nat) (ti : Int) : Sz kV1 [⟨vb, ti, kV1⟩] := ⟨kSz1.num, kSz1.len, fun p hp => (by simp at hp; subst hp; exact ⟨kSz1.num, kSz1.len⟩), by simp⟩
theorem kNum2 : NumOk kV2 := (edit2_facts kedit2 kHalf1 kSz1.num (by intro p hp; simp [kl2] at hp; subst hp; decide)).num
theorem kSz2 (P : List Pn) (h : ∀ p ∈ P, p.V = kV1) (hl : P.length ≤ 300) : Sz kV2 P := ⟨kNum2, by decide, fun p hp => (by rw [h p hp]; exact ⟨kSz1.num, kSz1.len⟩), hl⟩
/-- the two Applys of the example -/
theorem kap1 {w W : World} {T : Nat → Nat} {sb vb mb ia pa : Nat} (h : PAt T W sb vb mb kV0 []) (ho : Old w T W) (hl : Ls kPi W (some ⟨ia, 0, none⟩, 3, 3) kl1) (hp : Ls kT W (some ⟨pa, 0, none⟩, 3, 3) kpts) (htp : T pa = 0) (hpa : pa < W.heap.size) :
    Calls Try.prog 9 #[.pointer (some ⟨sb, 0, none⟩), .agg #[.int .u64 0, .int .u64 0, .int .u64 0, .slice none 0 0, .slice (some ⟨ia, 0, none⟩) 3 3, .slice (some ⟨pa, 0, none⟩) 3 3]] W fun e w' =>
      ∃ (nb : Nat) (a : Option Addr) (c : Nat) (T' : Nat → Nat), e = .returned (.tuple #[.slice a 0 c, .int .i64 0]) ∧ PAt T' w' sb nb mb kV1 [] ∧ Old w T' w' ∧ Goes (fun t => t = 1 ∨ t = 2 ∨ t = 7) T W T' w' := by
  have hc := apply2_any (V := kV0) (P := []) 0 0 0 none 0 [] (some ⟨ia, 0, none⟩) 3 (some ⟨pa, 0, none⟩) 3 kl1 kpts h ⟨num_nil 3, by decide, fun p hp => (by cases hp), Nat.zero_le _⟩ (zero_of ho) (half_nil 3) (by decide) (by decide) hl (by intro p hp; simp [kl1] at hp; rcases hp with rfl | rfl | rfl <;> decide) (isk_of hp htp hpa) ⟨IsK.nil _ _, rfl, fun _ => rfl, Nat.le_refl _, .inl rfl⟩ (fun p hp => by cases hp) (by decide)
  refine hc.mono ?_
  intro e w' ha
  unfold A2Is at ha
  rw [kedit1] at ha
  obtain ⟨nb, ⟨s1, s2, s3⟩, T', rfl, hP, hO, hg, _⟩ := ha
  have e0 : goneL nb kV1 [] vb kV0 = [] := by
    unfold goneL
    split
    · rfl
    · show (List.mergeSort (gl (allN kV1 []) []) _) = []
      simp [gl]
  rw [e0] at hO
  have hs := (OwnK.sk hO).1
  change s2 = 0 at hs
  subst hs
  exact ⟨nb, s1, s3, T', rfl, hP, ho.goes hg (by decide), hg⟩
theorem kap2 {w W : World} {T : Nat → Nat} {sb vb mb ia pa oa : Nat} (h : PAt T W sb vb mb kV1 [⟨vb, 1, kV1⟩]) (ho : Old w T W) (hO : Ls kPc W (some ⟨oa, 0, none⟩, 2, 2) kO2) (hl : Ls kPi W (some ⟨ia, 0, none⟩, 1, 1) kl2) (hp : Ls kT W (some ⟨pa, 0, none⟩, 3, 3) kpts) (htp : T pa = 0) (hpa : pa < W.heap.size) :
    Calls Try.prog 9 #[.pointer (some ⟨sb, 0, none⟩), .agg #[.int .u64 0, .int .u64 0, .int .u64 0, .slice (some ⟨oa, 0, none⟩) 2 2, .slice (some ⟨ia, 0, none⟩) 1 1, .slice (some ⟨pa, 0, none⟩) 3 3]] W fun e w' =>
      ∃ (nb : Nat) (a : Option Addr) (c : Nat) (T' : Nat → Nat), e = .returned (.tuple #[.slice a 0 c, .int .i64 0]) ∧ PAt T' w' sb nb mb kV2 [⟨vb, 1, kV1⟩] ∧ Old w T' w' ∧ vb ≠ nb := by
  have hc := apply2_any (V := kV1) (P := [⟨vb, 1, kV1⟩]) 0 0 0 (some ⟨oa, 0, none⟩) 2 kO2 (some ⟨ia, 0, none⟩) 1 (some ⟨pa, 0, none⟩) 3 kl2 kpts h (kSz1p vb 1) (zero_of ho) kHalf1 (by decide) (by decide) hl (by intro p hp; simp [kl2] at hp; subst hp; decide) (isk_of hp htp hpa) hO (by intro p hp; simp [kO2] at hp; rcases hp with rfl | rfl <;> decide) (by decide)
  refine hc.mono ?_
  intro e w' ha
  unfold A2Is at ha
  rw [kedit2] at ha
  obtain ⟨nb, ⟨s1, s2, s3⟩, T', rfl, hP, hO2, hg, hnb⟩ := ha
  rw [kgone] at hO2
  have hs := (OwnK.sk hO2).1
  change s2 = 0 at hs
  subst hs
  have := h.ver.lt
  exact ⟨nb, s1, s3, T', rfl, hP, ho.goes hg (by decide), by omega⟩
end Vr
end Go.Proofs.Ytecgecolghgjoaa
