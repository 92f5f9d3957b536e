import Derived.Test.YtkofopaejkabhaaMg2
namespace Go.Proofs.Ytkofopaejkabhaa
namespace Grp
open Go.RowKit Laws Irw Crw Sk
set_option linter.unusedVariables false
set_option maxRecDepth 100000
set_option linter.unusedSimpArgs false

theorem rightL_len (ws : List Chk.Wr) : (rightL ws).length ≤ 16 := by unfold rightL; simp; omega
theorem rightL_ok {ws : List Chk.Wr} : ∀ x ∈ rightL ws, 0 < x.1.size ∧ x.1.size ≤ 64 ∧ x.2.2.size ≤ 512 ∧ Chk.val x.2.1 x.2.2 = x.2.2 := by
  intro x hx
  unfold rightL at hx
  obtain ⟨y, _, rfl⟩ := List.mem_map.1 hx
  exact right_ok y
def RightAns (w : World) (ws : List Chk.Wr) (r : Ending) (w' : World) : Prop := ∃ a c, r = .returned (.slice a (rightL ws).length c) ∧ Chk.IsWr w' a (rightL ws) ∧ (∀ b off, a = some ⟨b, off, none⟩ → w.heap.size ≤ b ∧ b < w'.heap.size) ∧ (a = none → c = 0) ∧ Below w.heap.size w w'
theorem right_fresh (w : World) (a : Option Addr) (cap n : Nat) (ws : List Chk.Wr) (hn : ws.length = n) (hw : Chk.IsWr w a ws) :
    Calls Try.prog 28 #[.slice a n cap] w fun r w' => RightAns w ws r w' := by
  refine (right_any w a cap n ws hn hw).mono ?_
  rintro r w' ⟨v, T, rfl, hold, hown⟩
  obtain ⟨a', c', rfl, h1, h2, h3, h4⟩ := hown.form
  refine ⟨a', c', rfl, isWr_of h1 (by have := rightL_len ws; unfold maxLen; omega) (fun x hx => ?_), fun b off e => ?_, h3, hold.below⟩
  · obtain ⟨_, q1, q2, _⟩ := rightL_ok x hx
    unfold maxLen
    omega
  · obtain ⟨q1, q2⟩ := h4 b off e
    refine ⟨?_, q2⟩
    rcases Nat.lt_or_ge b w.heap.size with hb | hb
    · rw [hold.zero b (.inl hb)] at q1; cases q1
    · exact hb
theorem isS_new2 {w : World} {v : Sv} {u : TypeId} {g : Nat} (hg : w.heap.size = g) : IsK kS (w.alloc (.cells #[.slice v.1 v.2.1 v.2.2] u)) (some ⟨g, 0, none⟩) [v] := by
  subst hg
  refine IsK.of ⟨by simp, fun i z hz j u hu => ?_⟩
  cases i with
  | zero =>
    simp at hz; subst hz
    rw [World.cell?_alloc_at _ _ _ _ rfl]
    cases j with
    | zero => exact hu
    | succ j => exact absurd hu (by rw [show (kS.cs v)[j + 1]? = none from rfl]; simp)
  | succ i => simp at hz
theorem isU_new2 {w : World} {v : Int} {u : TypeId} {g : Nat} (hg : w.heap.size = g) : IsK kU (w.alloc (.cells #[.int .u64 v] u)) (some ⟨g, 0, none⟩) [v] := by
  subst hg
  refine IsK.of ⟨by simp, fun i z hz j u hu => ?_⟩
  cases i with
  | zero =>
    simp at hz; subst hz
    rw [World.cell?_alloc_at _ _ _ _ rfl]
    cases j with
    | zero => exact hu
    | succ j => exact absurd hu (by rw [show (kU.cs v)[j + 1]? = none from rfl]; simp)
  | succ i => simp at hz
/-- slices of writes, each as it should be, in memory of its own -/
def Each (T : Nat → Nat) (w : World) (vs : List Sv) (gs : List (List Chk.Wr)) : Prop :=
  vs.length = gs.length ∧ ∀ (i : Nat) v ws, vs[i]? = some v → gs[i]? = some ws → v.2.1 = ws.length ∧ Chk.IsWr w v.1 ws ∧ ∀ b off, v.1 = some ⟨b, off, none⟩ → T b = 0 ∧ b < w.heap.size
theorem Each.goes {u : Nat → Prop} {T T' : Nat → Nat} {w w' : World} {vs : List Sv} {gs : List (List Chk.Wr)} (h : Each T w vs gs) (hg : Goes u T w T' w') (h0 : ¬ u 0) : Each T' w' vs gs := by
  refine ⟨h.1, fun i v ws hv hw => ?_⟩
  obtain ⟨h1, h2, h3⟩ := h.2 i v ws hv hw
  refine ⟨h1, IsWr.keepB h2 (fun b off e _ => hg.block b (h3 b off e).2 (by rw [(h3 b off e).1]; exact h0)) hg.size, fun b off e => ⟨(hg.tag b (h3 b off e).2 (by rw [(h3 b off e).1]; exact h0)).trans (h3 b off e).1, Nat.lt_of_lt_of_le (h3 b off e).2 hg.size⟩⟩
theorem Each.snoc {T : Nat → Nat} {w : World} {vs : List Sv} {gs : List (List Chk.Wr)} (h : Each T w vs gs) {v : Sv} {ws : List Chk.Wr} (h1 : v.2.1 = ws.length) (h2 : Chk.IsWr w v.1 ws) (h3 : ∀ b off, v.1 = some ⟨b, off, none⟩ → T b = 0 ∧ b < w.heap.size) : Each T w (vs ++ [v]) (gs ++ [ws]) := by
  refine ⟨by simp [h.1], fun i v' ws' hv hw => ?_⟩
  rcases Nat.lt_trichotomy i vs.length with hi | hi | hi
  · rw [List.getElem?_append_left hi] at hv
    rw [List.getElem?_append_left (by rw [← h.1]; exact hi)] at hw
    exact h.2 i v' ws' hv hw
  · subst hi
    rw [List.getElem?_concat_length] at hv
    rw [h.1, List.getElem?_concat_length] at hw
    cases hv; cases hw
    exact ⟨h1, h2, h3⟩
  · rw [List.getElem?_eq_none (by simp; omega)] at hv
    cases hv
def BatAns (w : World) (gs : List (List Chk.Wr)) (r : Ending) (w' : World) : Prop := ∃ a c, r = .returned (.slice a gs.length c) ∧ IsG w' a gs ∧ ((a = none → c = 0) ∧ gs.length ≤ c) ∧ Below w.heap.size w w'
set_option maxHeartbeats 1000000 in
theorem batches_any (w : World) (a : Option Addr) (cap n : Nat) (gs : List (List Chk.Wr)) (hn : gs.length = n) (hmx : (n : Int) ≤ 9223372036854775807) (hw : IsG w a gs) :
    Calls Try.prog 20 #[.slice a n cap] w fun r w' => BatAns w ((gs.take 60).map rightL) r w' := by
  have HW : Hid (IsG w a gs) := hw
  have HN : Hid (gs.length = n) := hn
  obtain ⟨i0, hi0, hz0, hz1, hz2⟩ := info_parts infoS
  clear hw hn
  go_enter Try.func20, Try.ntmps20
  go_wp2
  go_loopw [3, 4] (fun v i wr => ∃ (k : Nat) (T : Nat → Nat) (vs : List Sv), k ≤ n ∧ k ≤ 60 ∧ i = .int .i64 (k : Int) ∧ Hid (Old w T wr ∧ OwnK kS 1 T wr v vs ∧ Each T wr vs ((gs.take k).map rightL))) (fun _ i _ => n - (intOf i).toNat)
  case atStart => exact ⟨0, fun _ => 0, [], Nat.zero_le _, Nat.zero_le _, rfl, Old.first _, OwnK.empty _ _ _, by simp, fun i v ws hv => by simp at hv⟩
  case round =>
    obtain ⟨k, T, vs, hk, hk16, rfl, HK⟩ := hrel
    by_cases hlt : k < n
    · have q1 : (k : Int) < (n : Int) := by omega
      by_cases h16 : k < 60
      · have q2 : (k : Int) < 60 := by omega
        have hkl : k < gs.length := by rw [HN.out]; exact hlt
        obtain ⟨b, off, ad, c, rfl, hbl, c0, hws⟩ := (HW.out.below HK.out.1.below).rd hkl
        obtain ⟨m, hm⟩ : ∃ m, (gs.getD k []).length = m := ⟨_, rfl⟩
        have HWS : Hid (Chk.IsWr wr ad (gs.getD k []) ∧ (gs.getD k []).length = m) := ⟨hws, hm⟩
        rw [hm] at c0
        have HTK : Hid ((gs.take (k + 1)).map rightL = (gs.take k).map rightL ++ [rightL (gs.getD k [])]) := by
          show (gs.take (k + 1)).map rightL = _
          rw [List.take_succ_eq_append_getElem hkl, List.map_append, List.map_singleton]
          simp [hkl]
        have hvk : vs.length = k := by
          have := HK.out.2.2.1
          rw [List.length_map, List.length_take] at this
          omega
        obtain ⟨v3, c3, hcl⟩ : ∃ v3 c3, u3 = Value.slice v3 k c3 := by
          obtain ⟨a', c', e, _⟩ := HK.out.2.1.form
          exact ⟨a', c', by rw [e, hvk]⟩
        subst hcl
        have HVK : Hid (vs.length = k) := hvk
        clear hvk hws hkl hm
        go_wp2_with (first
          | (go_at_call 28; refine (right_fresh _ _ _ _ _ HWS.out.2 HWS.out.1).mono ?_; rintro r w5 ⟨a5, c5, rfl, h5, h6, h7, h8⟩; obtain ⟨z5, hz5⟩ : ∃ z5, (rightL (gs.getD k [])).length = z5 := ⟨_, rfl⟩; have H5 : Hid (Chk.IsWr w5 a5 (rightL (gs.getD k [])) ∧ (∀ b off, a5 = some ⟨b, off, none⟩ → wr.heap.size ≤ b ∧ b < w5.heap.size) ∧ Below wr.heap.size wr w5 ∧ (rightL (gs.getD k [])).length = z5) := ⟨h5, h6, h8, hz5⟩; rw [hz5]; clear h5 h6 h7 h8 hz5)
          | (at_builtin; go_loud (refine wpList_appK kS _ (by rfl) (.tmp 15) (.tmp 21) 33 (by rfl) i0 undG hi0 hz0 hz1 hz2 1 T (.slice v3 k c3) vs (by rfl) (HK.out.2.1.below (H5.out.2.2.1.trans (((Below.refl _ _).alloc (Nat.le_refl _) _).mono H5.out.2.2.1.size))) (some ⟨w5.heap.size, 0, none⟩) 1 1 [(a5, z5, c5)] (by rfl) (by rfl) (by simp) (isS_new2 (by simp)) (by have := HVK.out; simp; omega) ?_; intro a7 c7 T7 w7 hown7 hgo7; have hall : Below w5.heap.size w5 (w5.alloc (.cells #[.slice a5 z5 c5] 52)) := (Below.refl _ _).alloc (Nat.le_refl _) _; have hb6 : Below wr.heap.size wr (w5.alloc (.cells #[.slice a5 z5 c5] 52)) := H5.out.2.2.1.trans (hall.mono H5.out.2.2.1.size); have HO7 : Hid (Old w T7 w7 ∧ OwnK kS 1 T7 w7 _ _ ∧ Each T7 w7 (vs ++ [(a5, z5, c5)]) ((gs.take k).map rightL ++ [rightL (gs.getD k [])])) := ⟨(HK.out.1.goes (Goes.below (t := (· = 1)) hb6) (by omega)).goes hgo7 (by omega), hown7, ((HK.out.2.2.goes (Goes.below (t := (· = 1)) hb6) (by omega)).snoc (v := (a5, z5, c5)) H5.out.2.2.2.symm (H5.out.1.below hall) (fun b off e => ⟨HK.out.1.zero b (.inr (H5.out.2.1 b off e).1), Nat.lt_of_lt_of_le (H5.out.2.1 b off e).2 hall.size⟩)).goes hgo7 (by omega)⟩; clear hown7 hgo7 hall hb6)))
        go_roundw
        case rel =>
          refine ⟨k + 1, T7, vs ++ [(a5, z5, c5)], by omega, by omega, by go_num, HO7.out.1, HO7.out.2.1, ?_⟩
          rw [HTK.out]
          exact HO7.out.2.2
        case measure => simp [intOf]; omega
      · obtain rfl : k = 60 := by omega
        obtain ⟨a', c', e, h1, h2, h3, h4⟩ := HK.out.2.1.form
        rw [HK.out.2.2.1] at e
        subst e
        have HF : Hid (BatAns w ((gs.take 60).map rightL) (.returned (.slice a' ((gs.take 60).map rightL).length c')) wr) := ⟨a', c', rfl, ⟨vs, HK.out.2.2.1, h1, fun i v ws hv hw => ⟨(HK.out.2.2.2 i v ws hv hw).1, (HK.out.2.2.2 i v ws hv hw).2.1⟩⟩, ⟨h3, by rw [← HK.out.2.2.1]; exact h2⟩, HK.out.1.below⟩
        generalize ((gs.take 60).map rightL).length = Z at *
        clear h1 h2 h3 h4
        go_wp2
        go_ret
        exact HF.out
    · obtain rfl : k = n := by omega
      have HE : Hid ((gs.take k).map rightL = (gs.take 60).map rightL) := by
        show _ = _
        rw [List.take_of_length_le (by rw [HN.out]; exact Nat.le_refl _), List.take_of_length_le (by rw [HN.out]; exact hk16)]
      obtain ⟨a', c', e, h1, h2, h3, h4⟩ := HK.out.2.1.form
      rw [HK.out.2.2.1, HE.out] at e
      subst e
      have HF : Hid (BatAns w ((gs.take 60).map rightL) (.returned (.slice a' ((gs.take 60).map rightL).length c')) wr) := ⟨a', c', rfl, ⟨vs, by rw [← HE.out]; exact HK.out.2.2.1, h1, fun i v ws hv hw => by
        rw [← HE.out] at hw
        exact ⟨(HK.out.2.2.2 i v ws hv hw).1, (HK.out.2.2.2 i v ws hv hw).2.1⟩⟩, ⟨h3, by rw [← HE.out, ← HK.out.2.2.1]; exact h2⟩, HK.out.1.below⟩
      generalize ((gs.take 60).map rightL).length = Z at *
      clear h1 h2 h3 h4
      go_wp2
      go_ret
      exact HF.out
/-- how many writes stand ahead of batch i -/
def off (gs : List (List Chk.Wr)) (i : Nat) : Nat := ((gs.take i).map List.length).sum
theorem off_succ {gs : List (List Chk.Wr)} {i : Nat} (h : i < gs.length) : off gs (i + 1) = off gs i + (gs.getD i []).length := by
  unfold off
  rw [List.take_succ_eq_append_getElem h, List.map_append, List.sum_append]
  simp [h]
theorem off_le {gs : List (List Chk.Wr)} (h : ∀ g ∈ gs, g.length ≤ 16) : ∀ i, i ≤ gs.length → off gs i ≤ 16 * i := by
  intro i
  induction i with
  | zero => intro _; simp [off]
  | succ i ih =>
    intro hi
    rw [off_succ (by omega)]
    have h1 := ih (by omega)
    have h2 : (gs.getD i []).length ≤ 16 := by
      have : gs.getD i [] = gs[i] := by simp [show i < gs.length by omega]
      rw [this]
      exact h _ (List.getElem_mem _)
    omega
def nums (first : Nat) (gs : List (List Chk.Wr)) (k : Nat) : List Int := (List.range k).map fun i => ((first + off gs i : Nat) : Int)
theorem nums_succ (first : Nat) (gs : List (List Chk.Wr)) (k : Nat) : nums first gs (k + 1) = nums first gs k ++ [((first + off gs k : Nat) : Int)] := by
  unfold nums
  rw [List.range_succ, List.map_append]
  rfl
theorem nums_len (first : Nat) (gs : List (List Chk.Wr)) (k : Nat) : (nums first gs k).length = k := by simp [nums]
def NumAns (w : World) (first : Nat) (gs : List (List Chk.Wr)) (n : Nat) (r : Ending) (w' : World) : Prop := ∃ a c, r = .returned (.slice a n c) ∧ IsK kU w' a (nums first gs n) ∧ (∀ b off, a = some ⟨b, off, none⟩ → w.heap.size ≤ b) ∧ Below w.heap.size w w'
set_option maxHeartbeats 1000000 in
theorem numbered_any (w : World) (first : Nat) (hf : first ≤ 1000) (a : Option Addr) (cap n : Nat) (gs : List (List Chk.Wr)) (hn : gs.length = n) (h60 : n ≤ 60) (h16 : ∀ g ∈ gs, g.length ≤ 16) (hw : IsG w a gs) :
    Calls Try.prog 21 #[.slice a n cap, .int .u64 (first : Int)] w fun r w' => NumAns w first gs n r w' := by
  have HW : Hid (IsG w a gs) := hw
  have HN : Hid (gs.length = n ∧ ∀ g ∈ gs, g.length ≤ 16) := ⟨hn, h16⟩
  obtain ⟨i0, hi0, hz0, hz1, hz2⟩ := info_parts infoU
  clear hw hn h16
  go_enter Try.func21, Try.ntmps21
  go_wp2
  go_loopw [5, 6, 7] (fun v s i wr => ∃ (k : Nat) (T : Nat → Nat), k ≤ n ∧ i = .int .i64 (k : Int) ∧ s = .int .u64 ((first + off gs k : Nat) : Int) ∧ Hid (Old w T wr ∧ OwnK kU 1 T wr v (nums first gs k))) (fun _ _ i _ => n - (intOf i).toNat)
  case atStart => exact ⟨0, fun _ => 0, Nat.zero_le _, rfl, by simp [off], Old.first _, OwnK.empty _ _ _⟩
  case round =>
    obtain ⟨k, T, hk, rfl, rfl, HK⟩ := hrel
    by_cases hlt : k < n
    · have q1 : (k : Int) < (n : Int) := by omega
      have hkl : k < gs.length := by rw [HN.out.1]; exact hlt
      obtain ⟨b, o, ad, c, rfl, hbl, c0, _⟩ := (HW.out.below HK.out.1.below).rd hkl
      obtain ⟨m, hm⟩ : ∃ m, (gs.getD k []).length = m := ⟨_, rfl⟩
      rw [hm] at c0
      have hs := off_succ hkl
      rw [hm] at hs
      have ho := off_le HN.out.2 k (by omega)
      have hm16 : m ≤ 16 := by
        rw [← hm]
        have : gs.getD k [] = gs[k] := by simp [hkl]
        rw [this]
        exact HN.out.2 _ (List.getElem_mem _)
      have HS : Hid (((first + off gs (k + 1) : Nat) : Int) = ((first + off gs k : Nat) : Int) + (m : Int) ∧ nums first gs (k + 1) = nums first gs k ++ [((first + off gs k : Nat) : Int)]) := ⟨by omega, nums_succ _ _ _⟩
      have q3 : (0 : Int) ≤ ((first + off gs k : Nat) : Int) := by omega
      have q4 : ((first + off gs k : Nat) : Int) ≤ 2000 := by omega
      have q5 : (m : Int) ≤ 16 := by omega
      obtain ⟨v3, c3, hcl⟩ : ∃ v3 c3, u5 = Value.slice v3 k c3 := by
        obtain ⟨a', c', e, _⟩ := HK.out.2.form
        exact ⟨a', c', by rw [e, nums_len]⟩
      subst hcl
      obtain ⟨vs, hvs⟩ : ∃ vs, nums first gs k = vs := ⟨_, rfl⟩
      rw [hvs] at HK HS
      have HVK : Hid (vs.length = k) := by rw [← hvs]; exact nums_len _ _ _
      generalize ((first + off gs k : Nat) : Int) = S at *
      have HM : Hid ((gs.getD k []).length = m) := hm
      clear hs ho hm16 hkl hm hvs
      go_wp2_with (at_builtin; go_loud (refine wpList_appK kU _ (by rfl) (.tmp 15) (.tmp 17) 66 (by rfl) i0 undU hi0 hz0 hz1 hz2 1 T (.slice v3 k c3) vs (by rfl) (HK.out.2.below ((Below.refl _ _).alloc (Nat.le_refl _) _)) (some ⟨wr.heap.size, 0, none⟩) 1 1 [S] (by rfl) (by rfl) (by simp) (isU_new2 (by simp)) (by have := HVK.out; simp; omega) ?_; intro a7 c7 T7 w7 hown7 hgo7; have hall : Below wr.heap.size wr (wr.alloc (.cells #[.int .u64 S] 51)) := (Below.refl _ _).alloc (Nat.le_refl _) _; have HO7 : Hid (Old w T7 w7 ∧ OwnK kU 1 T7 w7 _ _) := ⟨(HK.out.1.goes (Goes.below (t := (· = 1)) hall) (by omega)).goes hgo7 (by omega), hown7⟩; obtain ⟨b9, o9, ad9, c9, e9, _, c0', _⟩ := (HW.out.below HO7.out.1.below).rd (show k < gs.length by rw [HN.out.1]; exact hlt); rw [HM.out] at c0'; cases e9; clear hown7 hgo7 hall c0))
      go_roundw
      case rel => exact ⟨k + 1, T7, by omega, by go_num, by rw [HS.out.1], HO7.out.1, by rw [HS.out.2]; exact HO7.out.2⟩
      case measure => simp [intOf]; omega
    · obtain rfl : k = n := by omega
      obtain ⟨a', c', e, h1, h2, h3, h4⟩ := HK.out.2.form
      rw [nums_len] at e
      subst e
      have HF : Hid (NumAns w first gs k (.returned (.slice a' k c')) wr) := ⟨a', c', rfl, h1, fun b off e => (by
        rcases Nat.lt_or_ge b w.heap.size with hb | hb
        · have q := (h4 b off e).1; rw [HK.out.1.zero b (.inl hb)] at q; cases q
        · exact hb), HK.out.1.below⟩
      clear h1 h2 h3 h4
      go_wp2
      go_ret
      exact HF.out
end Grp
end Go.Proofs.Ytkofopaejkabhaa
