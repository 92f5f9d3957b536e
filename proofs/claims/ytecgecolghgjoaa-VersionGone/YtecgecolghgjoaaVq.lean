import Derived.Test.YtecgecolghgjoaaVp
namespace Go.Proofs.Ytecgecolghgjoaa
namespace Vr
open Go.Shelf Go.RowKit Go.Lib Go.Sort Go.Maps Go.ChangeMaps Go.MapKept Laws Irw Crw
set_option linter.unusedVariables false
set_option linter.unusedSimpArgs false
set_option maxRecDepth 20000
theorem enters109 : ∀ args w, (callFunc 50 args).run Try.prog w = .ok (.enter 50 args) w := enters_of Try.func50 (by kernel_rfl) rfl
/-- sorted by least keys -/
def Srt (d : List Tb) : Prop := d.Pairwise fun a b => ltS b.le a.le = false
theorem srt_of {l : List Tb} {d' : Array Tb} (h1 : PermIn 0 l.length l.toArray d') (h2 : SortedIn (ltOf cfT) 0 l.length d') : d'.size = l.length ∧ l.Perm d'.toList ∧ Srt d'.toList := by
  obtain ⟨e1, _, e3⟩ := h1
  have hs : d'.size = l.length := by simpa using e1
  refine ⟨hs, ?_, List.pairwise_iff_getElem.2 fun i j hi hj hij => ?_⟩
  · have e4 : d'.extract 0 l.length = d' := by rw [← hs]; simp
    have e5 : l.toArray.extract 0 l.length = l.toArray := by simp
    rw [e4, e5] at e3
    exact e3.symm
  · have hi' : i < d'.size := by simpa using hi
    have hj' : j < d'.size := by simpa using hj
    have := h2 i j (Nat.zero_le _) hij (by rw [← hs]; exact hj')
    rw [ltT, getElem!_pos d' j hj', getElem!_pos d' i hi'] at this
    simpa using this
set_option maxHeartbeats 3000000 in
theorem pdq_nil (c : Nat) (x : Int) (u : Value) (w : World) : Calls Try.prog 58 #[.slice none 0 0, .int .i64 0, .int .i64 0, .int .i64 x, u] w fun e w' => e = .returned (.tuple #[]) ∧ w' = w := by
  have HI : Hid (Calls Try.prog 72 #[.slice none 0 0, .int .i64 0, .int .i64 0, u] w fun e w' => e = .returned (.tuple #[]) ∧ w' = w) := by
    go_enter Try.func72, Try.ntmps72
    go_wp2
    go_loopw [8] (fun i wr => i = .int .i64 1 ∧ wr = w) (fun _ _ => 0)
    case atStart => exact ⟨rfl, rfl⟩
    case round =>
      obtain ⟨rfl, rfl⟩ := hrel
      go_wp2
      go_end0
      exact ⟨rfl, rfl⟩
  go_enter Try.func58, Try.ntmps58
  go_wp2
  go_loopw [1, 2] (fun a b wr => a = .int .i64 0 ∧ b = .int .i64 0 ∧ wr = w) (fun _ _ _ => 0)
  case atStart => exact ⟨rfl, rfl, rfl⟩
  case round =>
    obtain ⟨rfl, rfl, rfl⟩ := hrel
    go_wp2_with (go_at_call 72; go_loud (refine HI.out.mono ?_; rintro e w1 ⟨rfl, hw⟩; have hw := hw.symm; subst hw))
    refine bodyPost_ret (results_none rfl _ _ _) rfl ?_
    exact ⟨rfl, rfl⟩
/-- what a sort of a level makes -/
def SoIs (t : Nat) (T : Nat → Nat) (w : World) (v : Sv) (l : List Tb) (e : Ending) (w' : World) : Prop := e = .returned (.tuple #[]) ∧ ∃ d, l.Perm d ∧ Srt d ∧ OwnK kTb t T w' (svV v) d ∧ Goes (· = t) T w T w'
set_option maxHeartbeats 3000000 in
theorem sortFunc_any (t : Nat) (T : Nat → Nat) (w : World) (a : Option Addr) (c : Nat) (l : List Tb) (h : OwnK kTb t T w (.slice a l.length c) l) (hl : l.length ≤ 3000000) :
    Calls Try.prog 49 #[.slice a l.length c, .func (.func 50) #[] #[]] w fun e w' => SoIs t T w (a, l.length, c) l e w' := by
  rcases h.1.2 with ⟨h1, h2⟩ | ⟨G, cap, cur, hv, hb, hh, hc, hmx, hs, ht⟩
  · have hl0 : l = [] := List.eq_nil_of_length_eq_zero h2
    subst hl0
    simp only [List.length_nil] at h1 h ⊢
    cases h1
    have HO : Hid (OwnK kTb t T w (.slice none 0 0) []) := h
    have hlen : Calls Try.prog 55 #[.int .u64 0] w fun e w' => (∃ x : Int, e = .returned (.int .i64 x)) ∧ w' = w := (Any.bits_Len Try.bitsLen 0 w (by omega) (by omega)).mono fun _ _ ⟨he, hw⟩ => ⟨⟨_, he⟩, hw⟩
    clear h
    go_enter Try.func49, Try.ntmps49
    go_wp2_with (first
      | (go_at_call 55; go_loud (refine hlen.mono ?_; rintro e w1 ⟨⟨x, rfl⟩, hw⟩; have hw := hw.symm; subst hw))
      | (go_at_call 58; go_loud (refine (pdq_nil 0 x _ w).mono ?_; rintro e w1 ⟨rfl, hw⟩; have hw := hw.symm; subst hw)))
    go_end0
    exact ⟨rfl, [], List.Perm.refl _, List.Pairwise.nil, HO.out, Goes.refl _ _ _⟩
  · cases hv
    have hlt : G < w.heap.size := (Array.getElem?_eq_some_iff.1 hh).1
    have hH : HoldsK tbC 6 w G 0 l.toArray := by
      intro j hj
      have hj6 : j < l.length * 6 := by simpa using hj
      have hi : j / 6 < l.length := by omega
      have hg := kTb.cells_get l (j / 6) _ (List.getElem?_eq_getElem hi) (j % 6) (Nat.mod_lt _ (by decide))
      rw [show j / 6 * kTb.size + j % 6 = j by show j / 6 * 6 + j % 6 = j; omega] at hg
      have hm : j % 6 < (tbC l[j / 6]).length := Nat.mod_lt _ (by decide)
      refine ⟨?_, h.1.frozenAt _⟩
      rw [Nat.zero_add, h.1.cellAt j hj6, hg, get_flatK _ _ _ _ (by simpa using hj6)]
      have e1 : l.toArray[j / 6]! = l[j / 6] := by rw [getElem!_pos l.toArray _ (by simpa using hi)]; simp
      rw [e1]
      show (tbC l[j / 6])[j % 6]? = some (id (tbC l[j / 6])[j % 6]!)
      rw [getElem!_pos (tbC l[j / 6]) (j % 6) hm, List.getElem?_eq_getElem hm]
      rfl
    have hcon := AnyQ.slices_SortFunc Try.sortT 6 Try.isAgg47 Try.sizeOf47 tbC (fun _ => rfl) (fun x v hv => kTb.one x v hv) cfT swoT 50 #[] G 0 c l.toArray w enters109 (cmpLaysT G 0 _ w) hH hlt (by simp; omega)
    change Calls Try.prog 49 _ _ _ at hcon
    have hs0 : l.toArray.size = l.length := by simp
    rw [hs0] at hcon
    refine hcon.mono ?_
    rintro e w' ⟨rfl, d', m, os, h1, h2, rfl⟩
    obtain ⟨k1, k2, k3⟩ := srt_of h1 h2
    obtain ⟨k4, k5⟩ := own_sorted (m := m) (os := os) h k1
    exact ⟨rfl, _, k2, k3, k4, k5⟩
end Vr
end Go.Proofs.Ytecgecolghgjoaa
