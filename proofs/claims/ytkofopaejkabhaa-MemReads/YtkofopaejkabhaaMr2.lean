import Derived.Test.YtkofopaejkabhaaMr1
import Derived.Test.YtkofopaejkabhaaMs2
namespace Go.Proofs.Ytkofopaejkabhaa
namespace Mem
open Go.RowKit Laws Irw Erw KMath Skm Byt Sk Grp Crw
set_option linter.unusedVariables false
set_option maxRecDepth 100000
set_option linter.unusedSimpArgs false

def kT : Knd ByteArray := ⟨9, 1, 16, .string ⟨#[]⟩, fun x => [.string x], fun _ => rfl, fun x u hu => by simp at hu; subst hu; rfl, by omega, rfl, by omega⟩
theorem infoT : (Try.prog.info? 9).map (fun i => (i.zero, i.size, i.bytes)) = some (some kT.zero, 1, 16) := by kernel_rfl
theorem undT : Try.prog.underlying 70 = some (.slice 9) := by kernel_rfl
theorem isT_new2 {w : World} {v : ByteArray} {u : TypeId} {g : Nat} (hg : w.heap.size = g) : IsK kT (w.alloc (.cells #[.string v] u)) (some ⟨g, 0, none⟩) [v] := by
  subst hg
  refine IsK.of ⟨by simp, fun i z hz j u hu => ?_⟩
  cases i with
  | zero =>
    simp at hz; subst hz
    rw [World.cell?_alloc_at _ _ _ _ rfl]
    cases j with
    | zero => exact hu
    | succ j => exact absurd hu (by rw [show (kT.cs v)[j + 1]? = none from rfl]; simp)
  | succ i => simp at hz
theorem own_new {w : World} {v : ByteArray} : OwnK kT 1 (upd (fun _ => 0) w.heap.size 1) (w.alloc (.cells #[.string v] 9)) (.slice (some ⟨w.heap.size, 0, none⟩) 1 1) [v] ∧ Old w (upd (fun _ => 0) w.heap.size 1) (w.alloc (.cells #[.string v] 9)) := by
  refine ⟨⟨⟨rfl, .inr ⟨w.heap.size, 1, #[.string v], rfl, Nat.zero_le _, World.alloc_heap_new _ _, Nat.le_refl _, by decide, rfl, rfl⟩⟩, fun g hg => ?_⟩, (Below.refl _ _).alloc (Nat.le_refl _) _, fun b hb => ?_⟩
  · simp only [Value.ownBlock, Option.some.injEq] at hg
    subst hg
    exact upd_same _ _ _
  · simp only [World.size_alloc] at hb
    rw [upd_other _ _ (by omega)]
theorem rdT {w : World} {a : Option Addr} {ks : List ByteArray} {k : Nat} (h : IsK kT w a ks) (hk : k < ks.length) : ∃ b off, a = some ⟨b, off, none⟩ ∧ b < w.heap.size ∧ w.cell? ⟨b, off + k, none⟩ = some (.string (ks.getD k ⟨#[]⟩)) := by
  obtain ⟨b, off, e, hr⟩ := h.at_ (by omega)
  have hv : ks[k]? = some (ks.getD k ⟨#[]⟩) := by simp [hk]
  have hc := hr.2 k _ hv 0 _ rfl
  refine ⟨b, off, e, hr.1, ?_⟩
  have : off + k * kT.size + 0 = off + k := by show off + k * 1 + 0 = _; omega
  rw [this] at hc
  exact hc
theorem bt_len (f : Nat) (gs : List (List Chk.Wr)) (i : Nat) : (bt f gs i).length = (gs.getD i []).length := by unfold bt; rw [Ents.ents_length]
theorem bt_get {f : Nat} {gs : List (List Chk.Wr)} (hb : Bs gs) (hf : f ≤ 1000) {i : Nat} (hi : i < gs.length) {j : Nat} (hj : j < (gs.getD i []).length) : (bt f gs i).take (j + 1) = (bt f gs i).take j ++ [((gs.getD i [])[j].1, ((f + Grp.off gs i + j : Nat) : Int), (gs.getD i [])[j].2.1, (gs.getD i [])[j].2.2)] := by
  have hx := Ents.ents_get (first := ((f + Grp.off gs i : Nat) : Int)) (List.getElem?_eq_getElem hj)
  have hl : j < (bt f gs i).length := by rw [bt_len]; exact hj
  have ho := off_le hb.l16 i (by omega)
  have h60 := hb.len
  have h16 := hb.l16 _ (Bs.mem hi)
  rw [seqAt_small (by omega)] at hx
  obtain ⟨_, _, _, h4⟩ := hb.ok _ (Bs.mem hi) _ (List.getElem_mem hj)
  rw [h4] at hx
  rw [List.take_succ_eq_append_getElem hl]
  congr 2
  have h9 : (bt f gs i)[j]? = some (bt f gs i)[j] := List.getElem?_eq_getElem hl
  unfold bt at h9 ⊢
  rw [hx] at h9
  exact (Option.some.inj h9).symm
/-- what stands ahead of write j of batch i -/
def upto (f : Nat) (gs : List (List Chk.Wr)) (i j : Nat) : List En := fwd f gs i ++ (bt f gs i).take j
theorem upto_zero (f : Nat) (gs : List (List Chk.Wr)) (i : Nat) : upto f gs i 0 = fwd f gs i := by simp [upto]
theorem upto_end (f : Nat) (gs : List (List Chk.Wr)) (i : Nat) : upto f gs i (gs.getD i []).length = fwd f gs (i + 1) := by
  unfold upto
  rw [List.take_of_length_le (by rw [bt_len]; exact Nat.le_refl _), fwd_succ]
theorem upto_succ {f : Nat} {gs : List (List Chk.Wr)} (hb : Bs gs) (hf : f ≤ 1000) {i : Nat} (hi : i < gs.length) {j : Nat} (hj : j < (gs.getD i []).length) : upto f gs i (j + 1) = upto f gs i j ++ [((gs.getD i [])[j].1, ((f + Grp.off gs i + j : Nat) : Int), (gs.getD i [])[j].2.1, (gs.getD i [])[j].2.2)] := by
  unfold upto
  rw [bt_get hb hf hi hj, List.append_assoc]
def ksOf (key : ByteArray) (l : List En) : List ByteArray := key :: l.map fun e => e.1
theorem upto_len {f : Nat} {gs : List (List Chk.Wr)} (hb : Bs gs) {i j : Nat} (hi : i ≤ gs.length) : (upto f gs i j).length ≤ 1000 := by
  unfold upto
  rw [List.length_append, fwd_len f gs i hi]
  have h1 := off_le hb.l16 i hi
  have h2 : ((bt f gs i).take j).length ≤ 16 := by
    have := List.length_take_le j (bt f gs i)
    have h3 : (bt f gs i).length ≤ 16 := by
      rw [bt_len]
      by_cases h : i < gs.length
      · exact hb.l16 _ (Bs.mem h)
      · have : gs.getD i [] = [] := by simp [List.getD, List.getElem?_eq_none (by omega : gs.length ≤ i)]
        rw [this]; simp
    have := List.length_take_le' j (bt f gs i)
    omega
  have := hb.len
  omega
def KeysAns (w : World) (KS : List ByteArray) (r : Ending) (w' : World) : Prop := ∃ a c, r = .returned (.slice a KS.length c) ∧ IsK kT w' a KS ∧ (∀ b off, a = some ⟨b, off, none⟩ → w.heap.size ≤ b) ∧ Below w.heap.size w w'
set_option maxHeartbeats 2000000 in
theorem keys_any (w : World) (f : Nat) (hf : f ≤ 1000) (a : Option Addr) (cap n : Nat) (gs : List (List Chk.Wr)) (hn : gs.length = n) (hb : Bs gs) (hw : IsG w a gs) (key : ByteArray) :
    Calls Try.prog 23 #[.slice a n cap, .string key] w fun r w' => KeysAns w (ksOf key (fwd f gs n)) r w' := by
  have HW : Hid (IsG w a gs) := hw
  have HN : Hid (gs.length = n ∧ Bs gs) := ⟨hn, hb⟩
  have hn60 : (n : Int) ≤ 60 := by have := hb.len; omega
  obtain ⟨i0, hi0, hz0, hz1, hz2⟩ := info_parts infoT
  have HON : Hid _ := own_new (w := w) (v := key)
  clear hw hn hb
  go_enter Try.func23, Try.ntmps23
  go_wp2
  go_loopw [5, 6, 7] (fun v i _ wr => ∃ (k : Nat) (T : Nat → Nat), k ≤ n ∧ i = .int .i64 (k : Int) ∧ Hid (Old w T wr ∧ OwnK kT 1 T wr v (ksOf key (fwd f gs k)))) (fun _ i _ _ => n - (intOf i).toNat)
  case atStart => exact ⟨0, _, Nat.zero_le _, rfl, HON.out.2, HON.out.1⟩
  case round =>
    clear HON
    obtain ⟨k, T, hk, rfl, HK⟩ := hrel
    rename World => wr
    by_cases hlt : k < n
    · have q1 : (k : Int) < (n : Int) := by omega
      have hkl : k < gs.length := by rw [HN.out.1]; exact hlt
      obtain ⟨bg, og, ad1, c1, rfl, hbg, g1, hw1⟩ := HW.out.rd hkl
      obtain ⟨m1, hm1⟩ : ∃ m, (gs.getD k []).length = m := ⟨_, rfl⟩
      rw [hm1] at g1
      have HW1 : Hid (Chk.IsWr w ad1 (gs.getD k []) ∧ (gs.getD k []).length = m1 ∧ w.cell? ⟨bg, og + k, none⟩ = some (.slice ad1 m1 c1) ∧ bg < w.heap.size) := ⟨hw1, hm1, g1, hbg⟩
      have hm16 : (m1 : Int) ≤ 16 := by have := HN.out.2.l16 _ (Bs.mem hkl); omega
      have HUZ : Hid (ksOf key (fwd f gs k) = ksOf key (upto f gs k 0)) := by show _ = _; rw [upto_zero]
      clear hw1 hm1 g1 hbg hkl
      rw [HUZ.out] at HK
      go_wp2
      go_loopw [5, 7] (fun v j wq => ∃ (m : Nat) (T : Nat → Nat), m ≤ m1 ∧ j = .int .i64 (m : Int) ∧ Hid (Old w T wq ∧ OwnK kT 1 T wq v (ksOf key (upto f gs k m)))) (fun _ j _ => m1 - (intOf j).toNat)
      case atStart => exact ⟨0, T, Nat.zero_le _, rfl, HK⟩
      case round =>
        clear HK
        obtain ⟨m, Tm, hm, rfl, HQ⟩ := hrel
        rename World => wq
        have g1 := (HQ.out.1.below.cell (p := ⟨bg, og + k, none⟩) HW1.out.2.2.2).trans HW1.out.2.2.1
        by_cases hlm : m < m1
        · have hml : m < (gs.getD k []).length := by rw [HW1.out.2.1]; exact hlm
          obtain ⟨bw_, ow, rfl, hr⟩ := (HW1.out.1.below HQ.out.1.below).1 (by intro e; rw [e] at hml; simp at hml)
          obtain ⟨c0, c1', c2'⟩ := hr.2 m _ (List.getElem?_eq_getElem hml)
          have HUS : Hid (ksOf key (upto f gs k (m + 1)) = ksOf key (upto f gs k m) ++ [(gs.getD k [])[m].1]) := by
            show _ = _
            rw [upto_succ HN.out.2 hf (by rw [HN.out.1]; exact hlt) hml]
            unfold ksOf
            simp
          have hlb : (ksOf key (upto f gs k m)).length ≤ 1001 := by
            unfold ksOf
            have := upto_len (f := f) HN.out.2 (i := k) (j := m) (by rw [HN.out.1]; exact hk)
            simp; omega
          obtain ⟨KL, hKL⟩ : ∃ KL, ksOf key (upto f gs k m) = KL := ⟨_, rfl⟩
          obtain ⟨a5, c5, e5, _⟩ := HQ.out.2.form
          subst e5
          rw [hKL] at HQ HUS hlb ⊢
          obtain ⟨X, hX⟩ : ∃ X, KL.length = X := ⟨_, rfl⟩
          have HX : Hid (KL.length = X ∧ X ≤ 1001) := ⟨hX, by omega⟩
          rw [hX] at HQ ⊢
          have p1 : (m : Int) < (m1 : Int) := by omega
          clear c1' c2' hr hKL hX hlb
          generalize (gs.getD k [])[m].1 = mk at *
          go_wp2_with (at_builtin; go_loud (refine wpList_appK kT _ (by rfl) (.tmp 25) (.tmp 34) 70 (by rfl) i0 undT hi0 hz0 hz1 hz2 1 Tm (.slice a5 X c5) KL (by rfl) (HQ.out.2.below ((Below.refl _ _).alloc (Nat.le_refl _) _)) (some ⟨wq.heap.size, 0, none⟩) 1 1 [mk] (by rfl) (by rfl) (by simp) (isT_new2 (by simp)) (by have := HX.out; simp; omega) ?_; intro a7 c7 T7 w7 hown7 hgo7; have hall : Below wq.heap.size wq (wq.alloc (.cells #[.string mk] 9)) := (Below.refl _ _).alloc (Nat.le_refl _) _; have HO7 : Hid (Old w T7 w7 ∧ OwnK kT 1 T7 w7 _ _) := ⟨(HQ.out.1.goes (Goes.below (t := (· = 1)) hall) (by omega)).goes hgo7 (by omega), hown7⟩; clear hown7 hgo7 hall))
          go_roundw
          case rel => exact ⟨m + 1, T7, by omega, by go_num, HO7.out.1, by rw [HUS.out]; exact HO7.out.2⟩
          case measure => simp [intOf]; omega
        · obtain rfl : m = m1 := by omega
          have HUE : Hid (ksOf key (upto f gs k m) = ksOf key (fwd f gs (k + 1))) := by show _ = _; rw [← HW1.out.2.1, upto_end]
          go_wp2
          go_roundw
          case rel => exact ⟨k + 1, Tm, by omega, by go_num, HQ.out.1, by rw [← HUE.out]; exact HQ.out.2⟩
          case measure => simp [intOf]; omega
    · obtain rfl : k = n := by omega
      obtain ⟨a', c', e, h1, h2, h3, h4⟩ := HK.out.2.form
      subst e
      have HF : Hid (KeysAns w (ksOf key (fwd f gs k)) (.returned (.slice a' (ksOf key (fwd f gs k)).length c')) wr) := ⟨a', c', rfl, h1, fun b off e => (by
        rcases Nat.lt_or_ge b w.heap.size with hb | hb
        · have q := (h4 b off e).1; rw [HK.out.1.zero b (.inl hb)] at q; cases q
        · exact hb), HK.out.1.below⟩
      generalize (ksOf key (fwd f gs k)).length = Z at *
      clear h1 h2 h3 h4
      go_wp2
      go_ret
      exact HF.out
end Mem
end Go.Proofs.Ytkofopaejkabhaa
