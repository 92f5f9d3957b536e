import Derived.Test.YtigcbbgnbchpnaaRNy
import Derived.Test.YtigcbbgnbchpnaaDKno
import Derived.Test.YtigcbbgnbchpnaaRImg
import Derived.Deep.RegionHeld3
namespace Go.Proofs.Ytigcbbgnbchpnaa
namespace Dsk
open Go.RowKit Go.Shelf Go.Maps Go.Sort Byt Laws
set_option linter.unusedVariables false
set_option maxRecDepth 100000
set_option linter.unusedSimpArgs false
theorem Pd.below {T : Nat → Nat} {w w' : World} {d mb : Nat} {fb : Nat → Nat} {m : Dm} (h : Pd T w d mb fb m) (hb : Below w.heap.size w w') : Pd T w' d mb fb m := by
  obtain ⟨cv, D, h⟩ := h
  exact ⟨cv, D, Pdi.below h hb⟩
/-- The program's New refuses at once. -/
theorem newbad_any (R : Int) (hR : R ≤ 9223372036854775807) (a : Option Addr) (n c : Nat) (hn : (n : Int) ≤ 9223372036854775807) (hb : R < 0 ∨ 8388608 < n) (w : World) :
    Calls Try.prog 15 #[.int .i64 R, .slice a n c] w fun e w' => e = .returned (.tuple #[.pointer none, .int .i64 36]) ∧ w' = w := by
  by_cases h0 : R < 0
  · clear hb
    go_enter Try.func15, Try.ntmps15
    go_wp2
    go_ret2
    exact ⟨rfl, rfl⟩
  · have h8 : (8388608 : Int) < (n : Int) := by omega
    have h0' : 0 ≤ R := by omega
    clear hb h0
    go_enter Try.func15, Try.ntmps15
    go_wp2
    go_ret2
    exact ⟨rfl, rfl⟩
/-- What both New's answer. -/
def PNewAns (w : World) (R : Int) (fs : List Fj) (e : Ending) (w' : World) : Prop := (okNew R fs = false ∧ e = .returned (.tuple #[.pointer none, .int .i64 36])) ∨ (okNew R fs = true ∧ ∃ d mb T fb, e = .returned (.tuple #[.pointer (some ⟨d, 0, none⟩), .int .i64 0]) ∧ Pd T w' d mb fb (newM R.toNat fs))
theorem pnew_any (R : Int) (hR : R ≤ 9223372036854775807) (a : Option Addr) (n c : Nat) (fs : List Fj) (ds : List (Option Addr × Nat)) (w : World) (h : FjAt w a fs ds) (hn : fs.length = n) (hc : n ≤ c) (hc2 : c ≤ 9223372036854775807) :
    Calls Try.prog 15 #[.int .i64 R, .slice a n c] w fun e w' => Below w.heap.size w w' ∧ PNewAns w R fs e w' := by
  by_cases hb : R < 0 ∨ 8388608 < n
  · refine (newbad_any R hR a n c (by omega) hb w).mono ?_
    rintro e w' ⟨rfl, rfl⟩
    refine ⟨Below.refl _ _, .inl ⟨?_, rfl⟩⟩
    rcases hb with hb | hb
    · exact okNew_neg hb
    · exact okNew_many (by omega)
  · obtain ⟨Rn, rfl⟩ : ∃ Rn : Nat, R = (Rn : Int) := ⟨R.toNat, by omega⟩
    have := new_any Rn (by omega) a c fs ds w h (by omega) hc2 (by omega)
    rw [hn] at this
    refine this.mono ?_
    rintro e w' ⟨hbe, h1 | ⟨h1, d, mb, T, fb, h2, h3, h4, h5⟩⟩
    · exact ⟨hbe, .inl h1⟩
    · exact ⟨hbe, .inr ⟨h1, d, mb, T, fb, h3, h4⟩⟩
/-- What begin answers. -/
def BegAns (w : World) (R : Int) (fs : List Fj) (e : Ending) (w' : World) : Prop := (okNew R fs = false ∧ e = .returned (.tuple #[.pointer none, .bool true])) ∨ (okNew R fs = true ∧ ∃ P d r mb T fb S gb vf vn vs vc, e = .returned (.tuple #[.pointer (some ⟨P, 0, none⟩), .bool true]) ∧ w'.cell? ⟨P, 0, none⟩ = some (.pointer (some ⟨d, 0, none⟩)) ∧ w'.cell? ⟨P, 1, none⟩ = some (.pointer (some ⟨r, 0, none⟩)) ∧ Pd T w' d mb fb (newM R.toNat fs) ∧ Rd S w' r gb { newR R.toNat fs with su := (newR R.toNat fs).now } vf vn vs vc)
set_option maxHeartbeats 4000000 in
theorem begin_any (R : Int) (hR : R ≤ 9223372036854775807) (a : Option Addr) (n c : Nat) (fs : List Fj) (ds : List (Option Addr × Nat)) (w : World) (h : FjAt w a fs ds) (hn : fs.length = n) (hc : n ≤ c) (hc2 : c ≤ 9223372036854775807) (hl : ∀ f ∈ fs, f.data.length ≤ 140737488355328) (hl2 : n ≤ 2932031007402) :
    Calls Try.prog 7 #[.int .i64 R, .slice a n c] w fun e w' => Below w.heap.size w w' ∧ BegAns w R fs e w' := by
  have HTW : Hid _ := ltwin_any a n c fs ds w h hn.symm hc hc2 hl hl2
  have HF : Hid (FjAt w a fs ds ∧ fs.length = n ∧ n ≤ c ∧ c ≤ 9223372036854775807 ∧ (∀ f ∈ fs, f.data.length ≤ 140737488355328) ∧ R ≤ 9223372036854775807) := ⟨h, hn, hc, hc2, hl, hR⟩
  clear h hn hc hc2 hl hl2
  go_enter Try.func7, Try.ntmps7
  go_wp2_with fail
  refine Calls.mono HTW.out ?_
  rintro e w1 ⟨v1, ds1, rfl, hfo, hb1⟩
  obtain ⟨a1, c1, rfl, hlc, hcc, hfa⟩ := hfo.at_ HF.out.1
  rw [HF.out.2.1] at hlc ⊢
  have HPN : Hid _ := pnew_any R HF.out.2.2.2.2.2 a1 n c1 fs ds1 w1 hfa HF.out.2.1 hlc hcc
  have HB1 := HIDD hb1
  clear hfo hlc hcc hfa hb1 HTW
  go_wp2_with fail
  refine Calls.mono HPN.out ?_
  rintro e w2 ⟨hb2, hans⟩
  have HB2 := HIDD (keepB hb2 HB1.out)
  have HRN : Hid _ := rnew_any R HF.out.2.2.2.2.2 a n c fs ds w2 (HF.out.1.below HB2.out) HF.out.2.1 HF.out.2.2.1 HF.out.2.2.2.1 HF.out.2.2.2.2.1
  clear hb2 HPN HB1
  rcases hans with ⟨hok, rfl⟩ | ⟨hok, d, mb, T, fb, rfl, hpd⟩
  · have HOK := HIDD hok
    clear hok
    go_wp2_with fail
    refine Calls.mono HRN.out ?_
    rintro e w3 ⟨hb3, hans3⟩
    rcases hans3 with ⟨hok3, rfl⟩ | ⟨hok3, _⟩
    · have HB3 := HIDD (keepB hb3 HB2.out)
      clear hok3 hb3 HRN
      go_wp2
      go_ret2
      exact ⟨HB3.out, .inl ⟨HOK.out, rfl⟩⟩
    · rw [HOK.out] at hok3; cases hok3
  · have HOK := HIDD hok
    have HPD := HIDD hpd
    clear hok hpd
    go_wp2_with fail
    refine Calls.mono HRN.out ?_
    rintro e w3 ⟨hb3, hans3⟩
    rcases hans3 with ⟨hok3, rfl⟩ | ⟨hok3, r, S, gb, vf, vn, vs, vc, hrge, rfl, hrd, _⟩
    · rw [HOK.out] at hok3; cases hok3
    · have HB3 := HIDD (keepB hb3 HB2.out)
      have hb4 : Below w3.heap.size w3 (w3.alloc (.cells #[.pointer (some ⟨d, 0, none⟩), .pointer (some ⟨r, 0, none⟩)] 32)) := (Below.refl _ _).alloc (Nat.le_refl _) _
      have g4 : (w3.alloc (.cells #[.pointer (some ⟨d, 0, none⟩), .pointer (some ⟨r, 0, none⟩)] 32)).heap[w3.heap.size]? = some (.cells #[.pointer (some ⟨d, 0, none⟩), .pointer (some ⟨r, 0, none⟩)] 32) := heap_alloc_new w3 _
      have HFI : Hid (Below w.heap.size w (w3.alloc (.cells #[.pointer (some ⟨d, 0, none⟩), .pointer (some ⟨r, 0, none⟩)] 32)) ∧ BegAns w R fs (.returned (.tuple #[.pointer (some ⟨w3.heap.size, 0, none⟩), .bool true])) (w3.alloc (.cells #[.pointer (some ⟨d, 0, none⟩), .pointer (some ⟨r, 0, none⟩)] 32))) :=
        ⟨keepB hb4 HB3.out, .inr ⟨HOK.out, w3.heap.size, d, r, mb, T, fb, S, gb, vf, vn, vs, vc, rfl, by rw [cell_of g4]; rfl, by rw [cell_of g4]; rfl, (HPD.out.below hb3).below hb4, hrd.below hb4⟩⟩
      clear hb4 g4 hb3 hok3 hrd hrge HRN
      go_wp2
      go_ret2
      exact HFI.out
/-- both tell the same files -/
theorem files_same (R : Nat) (fs : List Fj) : ({ newR R fs with su := (newR R fs).now } : Rm).files = (newM R fs).files := rfl
theorem addAll_ids : ∀ (fs : List Fj) (l : List (Key × Nat)) (i : Nat), (∀ p ∈ l, p.2 < i) → ∀ p ∈ addAll l i fs, p.2 < i + fs.length
  | [], l, i, h, p, hp => by simpa [addAll] using h p hp
  | f :: r, l, i, h, p, hp => by
    have := addAll_ids r (ins l (ky f.name) i) (i + 1) (fun q hq => by
      rcases ins_mem hq with rfl | hq
      · exact Nat.lt_succ_self i
      · have := h q hq; omega) p (by simpa [addAll] using hp)
    simp
    omega
theorem image_same (R : Nat) (fs : List Fj) (hok : fs.all okF = true) : (newM R fs).image 0 [] = ({ newR R fs with su := (newR R fs).now } : Rm).image0 := by
  have hd : (newM R fs).dirAt 0 = addAll [] 0 fs := by
    show (([].drop _).reverse).foldl undo1 (addAll [] 0 fs) = _
    simp
  show told (flOf fs) [] ((newM R fs).dirAt 0) = (addAll [] 0 fs).map fun p => ⟨ofK p.1, (dataOf (flOf fs) p.2).take (sureOf (flOf fs) p.2), sureOf (flOf fs) p.2⟩
  rw [hd]
  have hids := addAll_ids fs [] 0 (by simp)
  generalize addAll [] 0 fs = l at *
  apply List.ext_getElem?
  intro k
  cases hk : l[k]? with
  | none =>
    have h1 : (told (flOf fs) [] l)[k]? = none := by
      rw [List.getElem?_eq_none_iff, told_length]
      exact List.getElem?_eq_none_iff.1 hk
    rw [h1, List.getElem?_map, hk]
    rfl
  | some p =>
    rw [told_get hk, List.getElem?_map, hk]
    have hlt := hids p (List.mem_of_getElem? hk)
    have hlt' : p.2 < fs.length := by omega
    have hfl : (flOf fs)[p.2]? = some ⟨(fs[p.2]).data, (fs[p.2]).sure.toNat⟩ := by simp [flOf, hlt']
    have hokf : okF fs[p.2] = true := (List.all_eq_true.1 hok) _ (List.getElem_mem hlt')
    unfold okF at hokf
    simp only [Bool.and_eq_true, decide_eq_true_eq] at hokf
    have e0 : amongN [] k = 0 := by simp [amongN]
    have e1 : dataOf (flOf fs) p.2 = (fs[p.2]).data := by simp [dataOf, hfl]
    have e2 : sureOf (flOf fs) p.2 = (fs[p.2]).sure.toNat := by simp [sureOf, hfl]
    have e3 : lenOf (flOf fs) p.2 = (fs[p.2]).data.length := by simp [lenOf, hfl]
    have e4 : leftD (flOf fs) p.2 0 = (fs[p.2]).data.take (fs[p.2]).sure.toNat := by
      unfold leftD
      rw [e1, e2, e3]
      congr 1
    simp only [Option.map_some, e0, e4, e1, e2]
    have e5 : ((fs[p.2]).data.take (fs[p.2]).sure.toNat).length = (fs[p.2]).sure.toNat := by
      rw [List.length_take]
      omega
    rw [e5]
    rfl
end Dsk
end Go.Proofs.Ytigcbbgnbchpnaa
