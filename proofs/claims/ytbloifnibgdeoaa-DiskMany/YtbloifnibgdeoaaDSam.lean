import Derived.Test.YtbloifnibgdeoaaDNe2
import Derived.Laws.IdiomStrings
import Derived.Laws.BytesString
namespace Go.Proofs.Ytbloifnibgdeoaa
namespace Dsk
open Go.RowKit Go.Shelf Go.Maps Go.Sort Byt Laws
set_option linter.unusedVariables false
set_option maxRecDepth 100000
set_option linter.unusedSimpArgs false

theorem add_plain2 (b off j : Nat) : (⟨b, off, none⟩ : Addr).add j = ⟨b, off + j, none⟩ := by
  unfold Addr.add
  split <;> simp_all
theorem conv_any (w : World) (a : Option Addr) (cap n : Nat) (l : List Nat) (h : IsB w a l) (hn : n = l.length) (hc : a = none → cap = 0) : (convert 30 9 (.slice a n cap)).run Try.prog w = .ok (.string (ofB l)) w := by
  subst hn
  cases a with
  | none =>
    have h0 := h.none
    subst h0
    rw [run_convert_bytes_string w 30 9 5 none _ cap Try.underlying30 Try.underlying5 Try.underlying9]
    rfl
  | some a =>
    have e : l.length = (l.map UInt8.ofNat).length := by simp
    rw [e]
    refine run_convert_bytes_back (P := Try.prog) w 30 9 5 a cap (l.map UInt8.ofNat) Try.underlying30 Try.underlying5 Try.underlying9 (fun j hj => ?_)
    have hj' : j < l.length := by simpa using hj
    obtain ⟨b, off, e1, hr⟩ := h.1 (by intro e; rw [e] at hj'; simp at hj')
    cases e1
    rw [add_plain2, hr.2 j _ (List.getElem?_eq_getElem hj')]
    have := h.2 _ (List.getElem_mem hj')
    simp
    omega

set_option maxHeartbeats 1000000 in
theorem sameB_true (a b : Option Addr) (ca cb n m : Nat) (l : List Nat) (w : World) (ha : IsB w a l) (hb : IsB w b l) (na : a = none → ca = 0) (nb : b = none → cb = 0) (hn : n = l.length) (hm : m = l.length) :
    Calls Try.prog 46 #[.slice a n ca, .slice b m cb] w fun e w' => e = .returned (.bool true) ∧ w' = w := by
  have h1 := conv_any w a ca n l ha hn na
  have h2 := conv_any w b cb m l hb hm nb
  clear ha hb na nb hn hm
  generalize ofB l = s at *
  go_enter Try.func46, Try.ntmps46
  go_wp2
  go_ret
  exact ⟨rfl, rfl⟩
/-- The cells of files that were told. -/
theorem FilesAt.cells {base : Nat} {w : World} {v : Value} {fs : List Fi} {ds : List (Option Addr × Nat)} (h : FilesAt base w v fs ds) {j : Nat} {f : Fi} {x : Option Addr × Nat} (hf : fs[j]? = some f) (hx : ds[j]? = some x) :
    ∃ g cap, v = .slice (some ⟨g, 0, none⟩) fs.length cap ∧ fs.length ≤ cap ∧ cap ≤ 9223372036854775807 ∧ w.cell? ⟨g, j * 3, none⟩ = some (.string f.name) ∧ w.cell? ⟨g, j * 3 + 1, none⟩ = some (.slice x.1 f.data.length x.2) ∧ w.cell? ⟨g, j * 3 + 2, none⟩ = some (.int .i64 f.sure) := by
  have key : ∀ {fs : List Fi} {ds : List (Option Addr × Nat)} {j : Nat} {f : Fi} {x : Option Addr × Nat}, fs[j]? = some f → ds[j]? = some x → ∀ t, t < 3 → (fiRow fs ds)[j * 3 + t]? = ([.string f.name, .slice x.1 f.data.length x.2, .int .i64 f.sure] : List Value)[t]? := by
    intro fs
    induction fs with
    | nil => intro ds j f x hf; simp at hf
    | cons f0 r ih =>
      intro ds j f x hf hx t ht
      cases ds with
      | nil => simp at hx
      | cons x0 dr =>
        cases j with
        | zero =>
          simp at hf hx; subst hf; subst hx
          match t, ht with
          | 0, _ => rfl
          | 1, _ => rfl
          | 2, _ => rfl
        | succ j =>
          simp at hf hx
          have e : (j + 1) * 3 + t = (j * 3 + t) + 3 := by omega
          rw [e, ← ih hf hx t ht]
          rfl
  have hlt : j < fs.length := (List.getElem?_eq_some_iff.1 hf).1
  rcases h.row.2 with ⟨_, h0⟩ | ⟨g, cap, cur, rfl, h1, h2, h3, h4, h5, h6⟩
  · omega
  · have hc : ∀ t, t < 3 → w.cell? ⟨g, j * 3 + t, none⟩ = ([.string f.name, .slice x.1 f.data.length x.2, .int .i64 f.sure] : List Value)[t]? := by
      intro t ht
      rw [Go.Joins.cell_of_block h2, ← key hf hx t ht, ← h6, List.getElem?_take, if_pos (by omega)]
      simp
    exact ⟨g, cap, rfl, h3, h4, hc 0 (by omega), hc 1 (by omega), hc 2 (by omega)⟩

set_option maxHeartbeats 1000000 in
theorem ref_right (s : ByteArray) (w : World) (hs : s.size ≤ 9223372036854775807) :
    Calls Try.prog 62 #[.string s] w fun e w' => e = .returned (.bool (okN s)) ∧ w' = w := by
  by_cases h1 : s.size < 1
  · have hr : okN s = false := by simp [okN]; omega
    rw [hr]; clear hr
    go_enter Try.func62, Try.ntmps62
    go_wp2
    go_ret
    exact ⟨rfl, rfl⟩
  by_cases h2 : 24 < s.size
  · have hr : okN s = false := by simp [okN]; omega
    rw [hr]; clear hr
    go_enter Try.func62, Try.ntmps62
    go_wp2
    go_ret
    exact ⟨rfl, rfl⟩
  go_enter Try.func62, Try.ntmps62
  go_wp2
  go_loop [3, 4, 13, 14, 15, 16, 17, 18, 19, 20, 21, 22, 23, 24, 25, 26, 27, 28, 29, 30, 31, 32, 33, 34, 35, 36, 37, 38, 39, 40] (fun i _ _ _ _ _ _ _ _ _ _ _ _ _ _ _ _ _ _ _ _ _ _ _ _ _ _ _ _ _ => ∃ k : Nat, i = .int .i64 k ∧ k ≤ s.size ∧ ∀ x ∈ (strB s).take k, okC x = true) (fun i _ _ _ _ _ _ _ _ _ _ _ _ _ _ _ _ _ _ _ _ _ _ _ _ _ _ _ _ _ => s.size - (intOf i).toNat)
  case atStart => exact ⟨0, rfl, Nat.zero_le _, by simp⟩
  case round =>
    obtain ⟨k, rfl, hk, hp⟩ := hrel
    by_cases hlt : k < s.size
    · have hlt' : (k : Int) < (s.size : Int) := by omega
      go_wp2
      all_goals (try simp only [bne_iff_ne, ne_eq, bne_eq_false_iff_eq, Bool.not_eq_false', Bool.not_eq_true', decide_eq_true_eq, decide_eq_false_iff_not, beq_iff_eq, beq_eq_false_iff_ne] at *)
      all_goals first
        | (go_ret; exact ⟨by rw [okN_bad hlt (okC_false (by show (s[k].toNat < 97 ∨ 122 < s[k].toNat) ∧ (s[k].toNat < 48 ∨ 57 < s[k].toNat) ∧ s[k].toNat ≠ 45; omega))]; rfl, rfl⟩)
        | (go_round
           case rel => exact ⟨k + 1, by go_num, hlt, strB_take hlt hp (okC_true (by show (97 ≤ s[k].toNat ∧ s[k].toNat ≤ 122) ∨ (48 ≤ s[k].toNat ∧ s[k].toNat ≤ 57) ∨ s[k].toNat = 45; omega))⟩
           case measure => simp [intOf]; omega)
        | (exfalso; omega)
    · have hk' : k = s.size := by omega
      subst hk'
      go_wp2
      go_ret
      refine ⟨?_, rfl⟩
      rw [okN_good (by omega) (by omega) (fun x hx => hp x (by rw [List.take_of_length_le (by rw [strB_length]; omega)]; exact hx))]; rfl

set_option maxHeartbeats 2000000 in
theorem sameFiles_true (base base' : Nat) (v v' : Value) (fs : List Fi) (ds ds' : List (Option Addr × Nat)) (w : World) (h : FilesAt base w v fs ds) (h' : FilesAt base' w v' fs ds') (hl : fs.length ≤ 1073741824) (hs : ∀ f ∈ fs, f.data.length ≤ 2147483648) :
    Calls Try.prog 12 #[v, v'] w fun e w' => e = .returned (.bool true) ∧ ∃ n, w' = w.drewN n := by
  obtain ⟨a, c, rfl⟩ := own_slice h.row
  obtain ⟨a', c', rfl⟩ := own_slice h'.row
  obtain ⟨N, hN⟩ : ∃ N, fs.length = N := ⟨_, rfl⟩
  have HN : Hid (fs.length = N) := hN
  have H : Hid (FilesAt base w (.slice a N c) fs ds) := by rw [← hN]; exact h
  have H' : Hid (FilesAt base' w (.slice a' N c') fs ds') := by rw [← hN]; exact h'
  rw [hN] at hl ⊢
  clear h h' hN
  go_enter Try.func12, Try.ntmps12
  go_wp2
  go_loopw [5, 11, 12, 13, 14, 15, 16, 17, 18, 19, 20, 21, 22, 23, 24, 25, 26, 27, 28, 29, 30, 31, 32, 33, 34, 35, 36, 37, 38, 39, 40, 41, 42, 43, 44, 45, 46, 47, 48, 49, 50, 51, 52, 53, 54] (fun i _ _ _ _ _ _ _ _ _ _ _ _ _ _ _ _ _ _ _ _ _ _ _ _ _ _ _ _ _ _ _ _ _ _ _ _ _ _ _ _ _ _ _ _ wr => ∃ k n : Nat, k ≤ N ∧ i = .int .i64 k ∧ wr = w.drewN n) (fun i _ _ _ _ _ _ _ _ _ _ _ _ _ _ _ _ _ _ _ _ _ _ _ _ _ _ _ _ _ _ _ _ _ _ _ _ _ _ _ _ _ _ _ _ _ => N - (intOf i).toNat)
  case atStart => exact ⟨0, 0, Nat.zero_le _, rfl, rfl⟩
  case round =>
    obtain ⟨k, n, hk, rfl, rfl⟩ := hrel
    by_cases hlt : k < N
    · have hlt' : (k : Int) < (N : Int) := by omega
      have hks : k < fs.length := by have := HN.out; omega
      obtain ⟨f, hf⟩ : ∃ f, fs[k]? = some f := ⟨_, List.getElem?_eq_getElem hks⟩
      obtain ⟨x, hx⟩ : ∃ x, ds[k]? = some x := ⟨_, List.getElem?_eq_getElem (by rw [H.out.len]; exact hks)⟩
      obtain ⟨x', hx'⟩ : ∃ x, ds'[k]? = some x := ⟨_, List.getElem?_eq_getElem (by rw [H'.out.len]; exact hks)⟩
      obtain ⟨g, cap, e1, z1, z2, c0, c1, c2⟩ := H.out.cells hf hx
      obtain ⟨g', cap', e1', z1', z2', d0, d1, d2⟩ := H'.out.cells hf hx'
      obtain ⟨rfl, _, rfl⟩ := Value.slice.inj e1
      obtain ⟨rfl, _, rfl⟩ := Value.slice.inj e1'
      have n1 := (H.out.data k f x hf hx).1
      have n2 := (H'.out.data k f x' hf hx').1
      have HS : Hid (∀ j, Calls Try.prog 46 #[.slice x.1 f.data.length x.2, .slice x'.1 f.data.length x'.2] (w.drewN j) fun e w' => e = .returned (.bool true) ∧ w' = w.drewN j) := fun j => sameB_true x.1 x'.1 x.2 x'.2 _ _ f.data (w.drewN j) (n1.isB.below (below_drewN (Below.refl _ _) _)) (n2.isB.below (below_drewN (Below.refl _ _) _)) n1.cap n2.cap rfl rfl
      have hfd := hs f (List.mem_of_getElem? hf)
      rw [HN.out] at z1 z1'
      clear n1 n2 e1 e1' hf hx hx'
      go_wp2
      go_quiet (first | (go_at_call 46; exact (HS.out _).mono (fun _ _ h => ⟨h.1, _, h.2⟩)))
      go_wp2
      go_roundw
      case rel => exact ⟨k + 1, _, by omega, by go_num, rfl⟩
      case measure => simp [intOf]; omega
    · go_wp2
      go_ret
      exact ⟨rfl, _, rfl⟩
end Dsk
end Go.Proofs.Ytbloifnibgdeoaa
