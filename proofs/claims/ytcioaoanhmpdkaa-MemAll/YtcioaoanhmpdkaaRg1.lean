import Derived.Test.YtcioaoanhmpdkaaUnd
namespace Go.Proofs.Ytcioaoanhmpdkaa
namespace Sk
open Go.RowKit Laws Irw Erw KMath Skm Byt
set_option linter.unusedVariables false
set_option maxRecDepth 100000
set_option linter.unusedSimpArgs false

/-- how many stand ahead of a place -/
def plc (k : ByteArray) (s : Int) (es : List En) : Nat := (es.takeWhile fun x => ahB x (atE k s)).length
theorem plc_le (k : ByteArray) (s : Int) (es : List En) : plc k s es ≤ es.length := by
  unfold plc
  exact (List.takeWhile_prefix _).length_le
theorem plc_lt {k : ByteArray} {s : Int} : ∀ {es : List En} {j : Nat}, j < plc k s es → j < es.length ∧ ahB (es.getD j ez) (atE k s) = true
  | [], j, h => by simp [plc] at h
  | x :: r, j, h => by
    unfold plc at h
    by_cases hx : ahB x (atE k s) = true
    · rw [List.takeWhile_cons, if_pos hx] at h
      cases j with
      | zero => exact ⟨by simp, by simpa using hx⟩
      | succ j =>
        have := plc_lt (k := k) (s := s) (es := r) (j := j) (by unfold plc; simp only [List.length_cons] at h; omega)
        exact ⟨by simp only [List.length_cons]; omega, by simpa using this.2⟩
    · rw [List.takeWhile_cons, if_neg hx] at h
      simp at h
theorem plc_end {k : ByteArray} {s : Int} : ∀ {es : List En}, plc k s es < es.length → ahB (es.getD (plc k s es) ez) (atE k s) = false
  | [], h => by simp at h
  | x :: r, h => by
    unfold plc at h ⊢
    by_cases hx : ahB x (atE k s) = true
    · rw [List.takeWhile_cons, if_pos hx] at h ⊢
      simp only [List.length_cons, List.getD_cons_succ] at h ⊢
      exact plc_end (es := r) (by unfold plc; omega)
    · rw [List.takeWhile_cons, if_neg hx]
      simpa using hx
theorem plc_drop (k : ByteArray) (s : Int) : ∀ (es : List En), es.drop (plc k s es) = es.dropWhile fun x => ahB x (atE k s)
  | [] => rfl
  | x :: r => by
    unfold plc
    by_cases hx : ahB x (atE k s) = true
    · rw [List.takeWhile_cons, if_pos hx, List.dropWhile_cons, if_pos hx]
      exact plc_drop k s r
    · rw [List.takeWhile_cons, if_neg hx, List.dropWhile_cons, if_neg hx]; rfl

/-- the document's list, as it lies: R itself, the blocks that it reads -/
structure Rl (w : World) (R : Nat) (ds : List Nat) (es : List En) (hs : List Int) (bs : List Nat) : Prop where
  lt : R < w.heap.size
  ent : ∃ a c, w.cell? ⟨R, 0, none⟩ = some (.slice a es.length c) ∧ IsE w a es ∧ es.length ≤ c ∧ (a = none → c = 0) ∧ (es = [] → a = none) ∧ ∀ ad, a = some ad → ∃ g ∈ bs, ad = ⟨g, 0, none⟩
  hig : ∃ a c, w.cell? ⟨R, 1, none⟩ = some (.slice a hs.length c) ∧ IsI w a hs ∧ hs.length ≤ c ∧ (a = none → c = 0) ∧ (hs = [] → a = none) ∧ ∀ ad, a = some ad → ∃ g ∈ bs, ad = ⟨g, 0, none⟩
  dra : ∃ a c, w.cell? ⟨R, 2, none⟩ = some (.slice a ds.length c) ∧ IsB w a ds ∧ ∀ ad, a = some ad → ad.block ∈ bs
  use : w.cell? ⟨R, 3, none⟩ = some (.int .i64 (es.length : Int))
  fro : ∀ j, w.frozen? ⟨R, j, none⟩ = false
  len : hs.length = es.length
  low : ∀ b ∈ bs, b < w.heap.size ∧ b ≠ R
theorem Rl.keep {w w' : World} {R : Nat} {ds : List Nat} {es : List En} {hs : List Int} {bs cs : List Nat} (h : Rl w R ds es hs bs) (hk : Keep cs w w') (hR : R ∉ cs) (hb : ∀ b ∈ bs, b ∉ cs) : Rl w' R ds es hs bs := by
  have hc : ∀ j, w'.cell? ⟨R, j, none⟩ = w.cell? ⟨R, j, none⟩ := fun j => hk.cell h.lt hR
  have hblk : ∀ b ∈ bs, w'.heap[b]? = w.heap[b]? := fun b hm => hk.block b (h.low b hm).1 (hb b hm)
  obtain ⟨a, c, e1, e2, e3, e4, e6, e5⟩ := h.ent
  obtain ⟨a2, c2, f1, f2, f3, f4, f6, f5⟩ := h.hig
  obtain ⟨a3, c3, g1, g2, g3⟩ := h.dra
  refine ⟨Nat.lt_of_lt_of_le h.lt hk.size, ⟨a, c, by rw [hc]; exact e1, fun hne => ?_, e3, e4, e6, e5⟩, ⟨a2, c2, by rw [hc]; exact f1, fun hne => ?_, f3, f4, f6, f5⟩, ⟨a3, c3, by rw [hc]; exact g1, ⟨fun hne => ?_, g2.2⟩, g3⟩, by rw [hc]; exact h.use, fun j => by rw [hk.frozen h.lt hR]; exact h.fro j, h.len, fun b hm => ⟨Nat.lt_of_lt_of_le (h.low b hm).1 hk.size, (h.low b hm).2⟩⟩
  · obtain ⟨b, off, rfl, hr⟩ := e2 hne
    obtain ⟨g, hg, eg⟩ := e5 _ rfl
    simp only [Addr.mk.injEq] at eg
    exact ⟨b, off, rfl, hr.keep (hblk b (by rw [eg.1]; exact hg)) hk.size⟩
  · obtain ⟨b, off, rfl, hr⟩ := f2 hne
    obtain ⟨g, hg, eg⟩ := f5 _ rfl
    simp only [Addr.mk.injEq] at eg
    exact ⟨b, off, rfl, hr.keep (hblk b (by rw [eg.1]; exact hg)) hk.size⟩
  · obtain ⟨b, off, rfl, hr⟩ := g2.1 hne
    exact ⟨b, off, rfl, hr.keep (hblk b (g3 _ rfl)) hk.size⟩
theorem Rl.below {w w' : World} {R : Nat} {ds : List Nat} {es : List En} {hs : List Int} {bs : List Nat} (h : Rl w R ds es hs bs) (hb : Below w.heap.size w w') : Rl w' R ds es hs bs := h.keep (cs := []) (Keep.below hb) (by simp) (by simp)

set_option maxHeartbeats 1000000 in
theorem refAhead_any (ak bk : ByteArray) (as_ bs : Int) (w : World) : Calls Try.prog 101 #[.string ak, .int .u64 as_, .string bk, .int .u64 bs] w fun e w' => e = .returned (.bool (decide (cmpE ak bk as_ bs < 0))) ∧ w' = w := by
  by_cases h1 : Op.bytesLess ak.toList bk.toList = true
  · have HR : Hid (decide (cmpE ak bk as_ bs < 0) = true) := by
      show decide (cmpE ak bk as_ bs < 0) = true
      simp [cmpE_lt_iff, h1]
    go_enter Try.func101, Try.ntmps101
    go_wp2
    go_ret
    exact ⟨by rw [HR.out]; rfl, rfl⟩
  · have h1' : Op.bytesLess ak.toList bk.toList = false := by simpa using h1
    by_cases h2 : ak.toList = bk.toList
    · have h2' : (ak.toList == bk.toList) = true := by simpa using h2
      by_cases h3 : bs < as_
      · have HR : Hid (decide (cmpE ak bk as_ bs < 0) = true) := by
          show decide (cmpE ak bk as_ bs < 0) = true
          simp [cmpE_lt_iff, h2, h3]
        clear h1 h2
        go_enter Try.func101, Try.ntmps101
        go_wp2
        go_ret
        exact ⟨by rw [HR.out]; rfl, rfl⟩
      · have HR : Hid (decide (cmpE ak bk as_ bs < 0) = false) := by
          show decide (cmpE ak bk as_ bs < 0) = false
          rw [decide_eq_false_iff_not, cmpE_lt_iff]
          simp [h1', h3]
        clear h1 h2
        go_enter Try.func101, Try.ntmps101
        go_wp2
        go_ret
        exact ⟨by rw [HR.out]; rfl, rfl⟩
    · have h2' : (ak.toList == bk.toList) = false := by simpa using h2
      have HR : Hid (decide (cmpE ak bk as_ bs < 0) = false) := by
        show decide (cmpE ak bk as_ bs < 0) = false
        rw [decide_eq_false_iff_not, cmpE_lt_iff]
        simp [h1', h2]
      clear h1 h2
      go_enter Try.func101, Try.ntmps101
      go_wp2
      go_ret
      exact ⟨by rw [HR.out]; rfl, rfl⟩

set_option maxHeartbeats 1000000 in
theorem place_any (w : World) (R : Nat) (ds : List Nat) (es : List En) (hs : List Int) (bs : List Nat) (h : Rl w R ds es hs bs) (hl : es.length ≤ 3000000000000) (k : ByteArray) (s : Int) :
    Calls Try.prog 95 #[.pointer (some ⟨R, 0, none⟩), .string k, .int .u64 s] w fun e w' => e = .returned (.int .i64 (plc k s es : Int)) ∧ ∃ n, w' = w.drewN n := by
  obtain ⟨a, c, e1, e2, _⟩ := h.ent
  obtain ⟨N, hN⟩ : ∃ N, es.length = N := ⟨_, rfl⟩
  rw [hN] at e1 hl
  have HE : Hid (IsE w a es ∧ es.length = N) := ⟨e2, hN⟩
  have hpl := plc_le k s es
  rw [hN] at hpl
  have HPL : Hid ((∀ j, j < plc k s es → j < es.length ∧ ahB (es.getD j ez) (atE k s) = true) ∧ (plc k s es < es.length → ahB (es.getD (plc k s es) ez) (atE k s) = false)) := ⟨fun j => plc_lt, plc_end⟩
  generalize plc k s es = M at *
  clear h e2 hN
  go_enter Try.func95, Try.ntmps95
  go_wp2
  go_loopw [7] (fun i wr => ∃ q : Nat, q ≤ M ∧ i = .int .i64 (q : Int) ∧ Hid (∃ m, wr = w.drewN m)) (fun i _ => M - (intOf i).toNat)
  case atStart => exact ⟨0, Nat.zero_le _, rfl, 0, rfl⟩
  case round =>
    obtain ⟨q, hq, rfl, HW⟩ := hrel
    have hbw : Below w.heap.size w wr := by obtain ⟨m, rfl⟩ := HW.out; exact below_drewN (Below.refl _ _) _
    have e1' : wr.cell? ⟨R, 0, none⟩ = some (.slice a N c) := (hbw.cell (World.block_lt_of_cell? w _ e1)).trans e1
    have HDN : Hid (∀ n, ∃ m, wr.drewN n = w.drewN m) := fun n => by obtain ⟨m, rfl⟩ := HW.out; exact ⟨m + n, by rw [World.drewN_drewN]⟩
    have HEW : Hid (IsE wr a es) := HE.out.1.below hbw
    clear hbw
    by_cases hlt : q < M
    · obtain ⟨h1, h2⟩ := HPL.out.1 q hlt
      obtain ⟨b, o, rfl, _, x0, x1, x2, x3⟩ := SkipOrder.rd HEW.out h1
      have hqN : q < N := by rw [← HE.out.2]; exact h1
      have q1 : (q : Int) < (N : Int) := by omega
      have HAH : Hid (∀ W, Calls Try.prog 101 #[.string (es.getD q ez).1, .int .u64 (es.getD q ez).2.1, .string k, .int .u64 s] W fun e w' => e = .returned (.bool true) ∧ w' = W) := fun W => by
        have h3 := refAhead_any (es.getD q ez).1 k (es.getD q ez).2.1 s W
        have h4 : decide (cmpE (es.getD q ez).1 k (es.getD q ez).2.1 s < 0) = true := h2
        rw [h4] at h3
        exact h3
      clear h1 h2 x2 x3
      generalize es.getD q ez = y at *
      go_wp2
      go_quiet ((go_at_call 101; exact Calls.quiet_of_same (HAH.out _)))
      go_wp2
      go_roundw
      case rel => exact ⟨q + 1, by omega, by go_num, HDN.out _⟩
      case measure => simp [intOf]; omega
    · obtain rfl : q = M := by omega
      by_cases hqN : q < N
      · have h1 : q < es.length := by rw [HE.out.2]; exact hqN
        have h2 := HPL.out.2 h1
        obtain ⟨b, o, rfl, _, x0, x1, x2, x3⟩ := SkipOrder.rd HEW.out h1
        have q1 : (q : Int) < (N : Int) := by omega
        have HAH : Hid (∀ W, Calls Try.prog 101 #[.string (es.getD q ez).1, .int .u64 (es.getD q ez).2.1, .string k, .int .u64 s] W fun e w' => e = .returned (.bool false) ∧ w' = W) := fun W => by
          have h3 := refAhead_any (es.getD q ez).1 k (es.getD q ez).2.1 s W
          have h4 : decide (cmpE (es.getD q ez).1 k (es.getD q ez).2.1 s < 0) = false := h2
          rw [h4] at h3
          exact h3
        clear h1 h2 x2 x3
        generalize es.getD q ez = y at *
        go_wp2
        go_quiet ((go_at_call 101; exact Calls.quiet_of_same (HAH.out _)))
        go_wp2
        go_ret
        exact ⟨rfl, HDN.out _⟩
      · have q2 : decide ((q : Int) < (N : Int)) = false := decide_eq_false (by omega)
        go_wp2
        go_quiet (fail)
        go_wp2
        go_ret
        exact ⟨rfl, HDN.out _⟩
end Sk
end Go.Proofs.Ytcioaoanhmpdkaa
