import Derived.Test.YtbloifnibgdeoaaRNy
import Derived.Test.YtbloifnibgdeoaaDKno
import Derived.Test.YtbloifnibgdeoaaRImg
import Derived.Deep.RegionHeld3
import Derived.Test.YtbloifnibgdeoaaRSml
import Derived.Test.YtbloifnibgdeoaaDp3
namespace Go.Proofs.Ytbloifnibgdeoaa
namespace Dsk
open Go.RowKit Go.Shelf Go.Maps Go.Sort Byt Laws
set_option linter.unusedVariables false
set_option maxRecDepth 100000
set_option linter.unusedSimpArgs false
/-- The program's New refuses at once. -/
theorem newbad_any (R : Int) (hR : R ≤ 9223372036854775807) (a : Option Addr) (n c : Nat) (hn : (n : Int) ≤ 9223372036854775807) (hb : R < 0 ∨ 8388608 < n) (w : World) :
    Calls Try.prog 25 #[.int .i64 R, .slice a n c] w fun e w' => e = .returned (.tuple #[.pointer none, .int .i64 36]) ∧ w' = w := by
  by_cases h0 : R < 0
  · clear hb
    go_enter Try.func25, Try.ntmps25
    go_wp2
    go_ret2
    exact ⟨rfl, rfl⟩
  · have h8 : (8388608 : Int) < (n : Int) := by omega
    have h0' : 0 ≤ R := by omega
    clear hb h0
    go_enter Try.func25, Try.ntmps25
    go_wp2
    go_ret2
    exact ⟨rfl, rfl⟩
/-- What both New's answer. -/
def PNewAns (w : World) (R : Int) (fs : List Fj) (e : Ending) (w' : World) : Prop := (okNew R fs = false ∧ e = .returned (.tuple #[.pointer none, .int .i64 36])) ∨ (okNew R fs = true ∧ ∃ d mb T fb, e = .returned (.tuple #[.pointer (some ⟨d, 0, none⟩), .int .i64 0]) ∧ Pd T w' d mb fb (newM R.toNat fs))
theorem pnew_any (R : Int) (hR : R ≤ 9223372036854775807) (a : Option Addr) (n c : Nat) (fs : List Fj) (ds : List (Option Addr × Nat)) (w : World) (h : FjAt w a fs ds) (hn : fs.length = n) (hc : n ≤ c) (hc2 : c ≤ 9223372036854775807) :
    Calls Try.prog 25 #[.int .i64 R, .slice a n c] w fun e w' => Below w.heap.size w w' ∧ PNewAns w R fs e w' := by
  by_cases hb : R < 0 ∨ 8388608 < n
  · refine (newbad_any R hR a n c (by omega) hb w).mono ?_
    rintro e w' ⟨rfl, rfl⟩
    refine ⟨Below.refl _ _, .inl ⟨?_, rfl⟩⟩
    rcases hb with hb | hb
    · exact okNew_neg hb
    · exact okNew_many (by omega)
  · obtain ⟨Rn, rfl⟩ : ∃ Rn : Nat, R = (Rn : Int) := ⟨R.toNat, by omega⟩
    have := new_any Rn (by omega) a c fs ds w h (by omega) hc2 (by omega)
    rw [hn] at this
    refine this.mono ?_
    rintro e w' ⟨hbe, h1 | ⟨h1, d, mb, T, fb, h2, h3, h4, h5⟩⟩
    · exact ⟨hbe, .inl h1⟩
    · exact ⟨hbe, .inr ⟨h1, d, mb, T, fb, h3, h4⟩⟩
/-- What begin answers. -/
def BegAns (w : World) (R : Int) (fs : List Fj) (e : Ending) (w' : World) : Prop := (okNew R fs = false ∧ e = .returned (.tuple #[.pointer none, .bool true])) ∨ (okNew R fs = true ∧ ∃ P d r mb T fb S gb vf vn vs vc, e = .returned (.tuple #[.pointer (some ⟨P, 0, none⟩), .bool true]) ∧ w'.cell? ⟨P, 0, none⟩ = some (.pointer (some ⟨d, 0, none⟩)) ∧ w'.cell? ⟨P, 1, none⟩ = some (.pointer (some ⟨r, 0, none⟩)) ∧ Pd T w' d mb fb (newM R.toNat fs) ∧ Rd S w' r gb { newR R.toNat fs with su := (newR R.toNat fs).now } vf vn vs vc)
set_option maxHeartbeats 4000000 in
theorem begin_any (R : Int) (hR : R ≤ 9223372036854775807) (a : Option Addr) (n c : Nat) (fs : List Fj) (ds : List (Option Addr × Nat)) (w : World) (h : FjAt w a fs ds) (hn : fs.length = n) (hc : n ≤ c) (hc2 : c ≤ 9223372036854775807) (hl : ∀ f ∈ fs, f.data.length ≤ 140737488355328) (hl2 : n ≤ 2932031007402) :
    Calls Try.prog 10 #[.int .i64 R, .slice a n c] w fun e w' => Below w.heap.size w w' ∧ BegAns w R fs e w' := by
  have HTW : Hid _ := ltwin_any a n c fs ds w h hn.symm hc hc2 hl hl2
  have HF : Hid (FjAt w a fs ds ∧ fs.length = n ∧ n ≤ c ∧ c ≤ 9223372036854775807 ∧ (∀ f ∈ fs, f.data.length ≤ 140737488355328) ∧ R ≤ 9223372036854775807) := ⟨h, hn, hc, hc2, hl, hR⟩
  clear h hn hc hc2 hl hl2
  go_enter Try.func10, Try.ntmps10
  go_wp2_with fail
  refine Calls.mono HTW.out ?_
  rintro e w1 ⟨v1, ds1, rfl, hfo, hb1⟩
  obtain ⟨a1, c1, rfl, hlc, hcc, hfa⟩ := hfo.at_ HF.out.1
  rw [HF.out.2.1] at hlc ⊢
  have HPN : Hid _ := pnew_any R HF.out.2.2.2.2.2 a1 n c1 fs ds1 w1 hfa HF.out.2.1 hlc hcc
  have HB1 := HIDD hb1
  clear hfo hlc hcc hfa hb1 HTW
  go_wp2_with fail
  refine Calls.mono HPN.out ?_
  rintro e w2 ⟨hb2, hans⟩
  have HB2 := HIDD (keepB hb2 HB1.out)
  have HRN : Hid _ := rnew_any R HF.out.2.2.2.2.2 a n c fs ds w2 (HF.out.1.below HB2.out) HF.out.2.1 HF.out.2.2.1 HF.out.2.2.2.1 HF.out.2.2.2.2.1
  clear hb2 HPN HB1
  rcases hans with ⟨hok, rfl⟩ | ⟨hok, d, mb, T, fb, rfl, hpd⟩
  · have HOK := HIDD hok
    clear hok
    go_wp2_with fail
    refine Calls.mono HRN.out ?_
    rintro e w3 ⟨hb3, hans3⟩
    rcases hans3 with ⟨hok3, rfl⟩ | ⟨hok3, _⟩
    · have HB3 := HIDD (keepB hb3 HB2.out)
      clear hok3 hb3 HRN
      go_wp2
      go_ret2
      exact ⟨HB3.out, .inl ⟨HOK.out, rfl⟩⟩
    · rw [HOK.out] at hok3; cases hok3
  · have HOK := HIDD hok
    have HPD := HIDD hpd
    clear hok hpd
    go_wp2_with fail
    refine Calls.mono HRN.out ?_
    rintro e w3 ⟨hb3, hans3⟩
    rcases hans3 with ⟨hok3, rfl⟩ | ⟨hok3, r, S, gb, vf, vn, vs, vc, hrge, rfl, hrd, _⟩
    · rw [HOK.out] at hok3; cases hok3
    · have HB3 := HIDD (keepB hb3 HB2.out)
      have hb4 : Below w3.heap.size w3 (w3.alloc (.cells #[.pointer (some ⟨d, 0, none⟩), .pointer (some ⟨r, 0, none⟩)] 39)) := (Below.refl _ _).alloc (Nat.le_refl _) _
      have g4 : (w3.alloc (.cells #[.pointer (some ⟨d, 0, none⟩), .pointer (some ⟨r, 0, none⟩)] 39)).heap[w3.heap.size]? = some (.cells #[.pointer (some ⟨d, 0, none⟩), .pointer (some ⟨r, 0, none⟩)] 39) := heap_alloc_new w3 _
      have HFI : Hid (Below w.heap.size w (w3.alloc (.cells #[.pointer (some ⟨d, 0, none⟩), .pointer (some ⟨r, 0, none⟩)] 39)) ∧ BegAns w R fs (.returned (.tuple #[.pointer (some ⟨w3.heap.size, 0, none⟩), .bool true])) (w3.alloc (.cells #[.pointer (some ⟨d, 0, none⟩), .pointer (some ⟨r, 0, none⟩)] 39))) :=
        ⟨keepB hb4 HB3.out, .inr ⟨HOK.out, w3.heap.size, d, r, mb, T, fb, S, gb, vf, vn, vs, vc, rfl, by rw [cell_of g4]; rfl, by rw [cell_of g4]; rfl, (HPD.out.below hb3).below hb4, hrd.below hb4⟩⟩
      clear hb4 g4 hb3 hok3 hrd hrge HRN
      go_wp2
      go_ret2
      exact HFI.out
/-- both tell the same files -/
theorem files_same (R : Nat) (fs : List Fj) : ({ newR R fs with su := (newR R fs).now } : Rm).files = (newM R fs).files := rfl
theorem addAll_ids : ∀ (fs : List Fj) (l : List (Key × Nat)) (i : Nat), (∀ p ∈ l, p.2 < i) → ∀ p ∈ addAll l i fs, p.2 < i + fs.length
  | [], l, i, h, p, hp => by simpa [addAll] using h p hp
  | f :: r, l, i, h, p, hp => by
    have := addAll_ids r (ins l (ky f.name) i) (i + 1) (fun q hq => by
      rcases ins_mem hq with rfl | hq
      · exact Nat.lt_succ_self i
      · have := h q hq; omega) p (by simpa [addAll] using hp)
    simp
    omega
theorem image_same (R : Nat) (fs : List Fj) (hok : fs.all okF = true) : (newM R fs).image 0 [] = ({ newR R fs with su := (newR R fs).now } : Rm).image0 := by
  have hd : (newM R fs).dirAt 0 = addAll [] 0 fs := by
    show (([].drop _).reverse).foldl undo1 (addAll [] 0 fs) = _
    simp
  show told (flOf fs) [] ((newM R fs).dirAt 0) = (addAll [] 0 fs).map fun p => ⟨ofK p.1, (dataOf (flOf fs) p.2).take (sureOf (flOf fs) p.2), sureOf (flOf fs) p.2⟩
  rw [hd]
  have hids := addAll_ids fs [] 0 (by simp)
  generalize addAll [] 0 fs = l at *
  apply List.ext_getElem?
  intro k
  cases hk : l[k]? with
  | none =>
    have h1 : (told (flOf fs) [] l)[k]? = none := by
      rw [List.getElem?_eq_none_iff, told_length]
      exact List.getElem?_eq_none_iff.1 hk
    rw [h1, List.getElem?_map, hk]
    rfl
  | some p =>
    rw [told_get hk, List.getElem?_map, hk]
    have hlt := hids p (List.mem_of_getElem? hk)
    have hlt' : p.2 < fs.length := by omega
    have hfl : (flOf fs)[p.2]? = some ⟨(fs[p.2]).data, (fs[p.2]).sure.toNat⟩ := by simp [flOf, hlt']
    have hokf : okF fs[p.2] = true := (List.all_eq_true.1 hok) _ (List.getElem_mem hlt')
    unfold okF at hokf
    simp only [Bool.and_eq_true, decide_eq_true_eq] at hokf
    have e0 : amongN [] k = 0 := by simp [amongN]
    have e1 : dataOf (flOf fs) p.2 = (fs[p.2]).data := by simp [dataOf, hfl]
    have e2 : sureOf (flOf fs) p.2 = (fs[p.2]).sure.toNat := by simp [sureOf, hfl]
    have e3 : lenOf (flOf fs) p.2 = (fs[p.2]).data.length := by simp [lenOf, hfl]
    have e4 : leftD (flOf fs) p.2 0 = (fs[p.2]).data.take (fs[p.2]).sure.toNat := by
      unfold leftD
      rw [e1, e2, e3]
      congr 1
    simp only [Option.map_some, e0, e4, e1, e2]
    have e5 : ((fs[p.2]).data.take (fs[p.2]).sure.toNat).length = (fs[p.2]).sure.toNat := by
      rw [List.length_take]
      omega
    rw [e5]
    rfl
end Dsk
end Go.Proofs.Ytbloifnibgdeoaa
namespace Go.Proofs.Ytbloifnibgdeoaa
namespace Dsk
open Go.RowKit Go.Shelf Go.Maps Go.Sort Byt Laws
set_option linter.unusedVariables false
set_option maxRecDepth 100000
set_option linter.unusedSimpArgs false
attribute [local go_sem ↓] Go.wp_at_zero Go.wp_at_succ

set_option maxHeartbeats 2000000 in
theorem small_both (a : Option Addr) (n c : Nat) (fs : List Fj) (ds : List (Option Addr × Nat)) (a' : Option Addr) (n' c' : Nat) (os : List OpD) (w : World) (h : FjAt w a fs ds) (hn : n = fs.length) (hc : n ≤ c) (hc2 : c ≤ 9223372036854775807) (hl : ∀ f ∈ fs, f.data.length ≤ 140737488355328) (h' : OpsAt w a' os) (hn' : n' = os.length) (hc' : n' ≤ c') (hc2' : c' ≤ 9223372036854775807) :
    Calls Try.prog 9 #[.slice a n c, .slice a' n' c'] w fun e w' => (∃ b : Bool, e = .returned (.bool b) ∧ (b = true → sumF fs ≤ 1048576 ∧ sumO os ≤ 1048576 ∧ os.length ≤ 400)) ∧ ∃ q, w' = w.drewN q := by
  have HF : Hid (FjAt w a fs ds) := h
  have HN : Hid (n = fs.length) := hn
  have HL : Hid (∀ f ∈ fs, f.data.length ≤ 140737488355328) := hl
  have HF' : Hid (OpsAt w a' os) := h'
  have HN' : Hid (n' = os.length) := hn'
  clear h hn hl h' hn'
  go_enter Try.func9, Try.ntmps9
  go_wp2
  go_loopw [5, 6] (fun s i wr => ∃ k sk : Nat, k ≤ n ∧ i = .int .i64 k ∧ s = .int .i64 (sk : Int) ∧ sk ≤ 1048576 ∧ Hid (sumF (fs.take k) = sk) ∧ wr = w) (fun _ i _ => n - (intOf i).toNat)
  case atStart => exact ⟨0, 0, Nat.zero_le _, rfl, rfl, by omega, show _ = _ from rfl, rfl⟩
  case round =>
    obtain ⟨k, sk, hk, rfl, rfl, hs, HS, rfl⟩ := hrel
    by_cases hlt : k < n
    · have hlt' : (k : Int) < (n : Int) := by omega
      have hks : k < fs.length := by have := HN.out; omega
      obtain ⟨f, hf⟩ : ∃ f, fs[k]? = some f := ⟨_, List.getElem?_eq_getElem hks⟩
      obtain ⟨x, hx⟩ : ∃ x, ds[k]? = some x := ⟨_, List.getElem?_eq_getElem (by rw [HF.out.len]; exact hks)⟩
      obtain ⟨⟨b, off, rfl, c0, c1, c2⟩, hib, hnil, hle, hcx, hnm, hs1, hs2⟩ := HF.out.at_ k f x hf hx
      have hob := HL.out f (List.mem_of_getElem? hf)
      have HNX : Hid (sumF (fs.take (k + 1)) = sumF (fs.take k) + f.data.length) := sumF_take hf
      obtain ⟨len, hlen⟩ : ∃ len, len = f.data.length := ⟨_, rfl⟩
      have HLEN : Hid (len = f.data.length) := hlen
      rw [← hlen] at c1 hob hle
      clear hf hx hib hnil hnm hlen hs1 hs2 c0 c2
      by_cases hbig : 1048576 < sk + len
      · have hbig' : (1048576 : Int) < (sk : Int) + (len : Int) := by omega
        go_wp2
        go_ret
        exact ⟨⟨false, rfl, by intro e; cases e⟩, 0, rfl⟩
      · have hbig' : ¬ (1048576 : Int) < (sk : Int) + (len : Int) := by omega
        go_wp2
        go_roundw
        case rel => exact ⟨k + 1, sk + len, by omega, by go_num, by go_num, by omega, show _ = _ by rw [HNX.out, HS.out, HLEN.out], by first | rfl | trivial⟩
        case measure => simp [intOf]; omega
    · have hk' : k = n := by omega
      subst hk'
      have HT : Hid (sumF fs ≤ 1048576) := by
        have e := HS.out
        rw [List.take_of_length_le (by rw [← HN.out]; exact Nat.le_refl _)] at e
        show _ ≤ _
        rw [e]; exact hs
      clear HS HF HL HN hlt
      rename World => wr
      go_wp2
      go_loopw [5, 7] (fun s i w9 => ∃ k sk q : Nat, k ≤ n' ∧ i = .int .i64 k ∧ s = .int .i64 (sk : Int) ∧ sk ≤ 1048576 ∧ Hid (sumO (os.take k) ≤ sk) ∧ w9 = wr.drewN q) (fun _ i _ => n' - (intOf i).toNat)
      case atStart => exact ⟨0, sk, 0, Nat.zero_le _, rfl, rfl, by omega, show _ ≤ _ from Nat.zero_le _, rfl⟩
      case round =>
        clear hk hs
        obtain ⟨k, sk, q, hk, rfl, rfl, hs, HS, rfl⟩ := hrel
        by_cases hlt : k < n'
        · have hlt' : (k : Int) < (n' : Int) := by omega
          have hks : k < os.length := by have := HN'.out; omega
          obtain ⟨o, ho⟩ : ∃ o, os[k]? = some o := ⟨_, List.getElem?_eq_getElem hks⟩
          obtain ⟨b, off, rfl, _, hcl⟩ := HF'.out.at_ k o ho
          have hok := HF'.out.ok o (List.mem_of_getElem? ho)
          have c3 := hcl 3 (by omega)
          have c7 := hcl 7 (by omega)
          replace c3 : wr.cell? ⟨b, off + k * 8 + 3, none⟩ = some (.slice o.da o.data.length o.dc) := c3
          replace c7 : wr.cell? ⟨b, off + k * 8 + 7, none⟩ = some (.slice o.ka o.keep.length o.kc) := c7
          have hb1 := hok.big
          have HNX : Hid (sumO (os.take (k + 1)) = sumO (os.take k) + (o.data.length + o.keep.length)) := sumO_take ho
          obtain ⟨l1, hl1⟩ : ∃ l1, l1 = o.data.length := ⟨_, rfl⟩
          obtain ⟨l2, hl2⟩ : ∃ l2, l2 = o.keep.length := ⟨_, rfl⟩
          have HLEN : Hid (l1 = o.data.length ∧ l2 = o.keep.length) := ⟨hl1, hl2⟩
          rw [← hl1] at c3 hb1
          rw [← hl2] at c7 hb1
          obtain ⟨hb1, hb2⟩ := hb1
          clear ho hcl hok hl1 hl2
          by_cases hbig : 1048576 < sk + l1 + l2
          · have hbig' : (1048576 : Int) < (sk : Int) + (l1 : Int) + (l2 : Int) := by omega
            go_wp2
            go_quiet (fail)
            go_wp2
            go_ret
            exact ⟨⟨false, rfl, by intro e; cases e⟩, _, rfl⟩
          · have hbig' : ¬ (1048576 : Int) < (sk : Int) + (l1 : Int) + (l2 : Int) := by omega
            go_wp2
            go_quiet (fail)
            go_wp2
            go_roundw
            case rel => exact ⟨k + 1, sk + l1 + l2, _, by omega, by go_num, by go_num, by omega, show _ ≤ _ by rw [HNX.out, ← HLEN.out.1, ← HLEN.out.2]; have := HS.out; omega, rfl⟩
            case measure => simp [intOf]; omega
        · have hk' : k = n' := by omega
          subst hk'
          have HT2 : Hid (sumO os ≤ 1048576) := by
            have e := HS.out
            rw [List.take_of_length_le (by rw [← HN'.out]; exact Nat.le_refl _)] at e
            show _ ≤ _
            omega
          clear HS
          go_wp2
          go_ret
          refine ⟨⟨_, rfl, fun e => ⟨HT.out, HT2.out, ?_⟩⟩, _, rfl⟩
          have := HN'.out
          simp at e
          omega
/-- What begin answers, with both disks' tags. -/
def BegIs (w : World) (R : Int) (fs : List Fj) (e : Ending) (w' : World) : Prop := (okNew R fs = false ∧ e = .returned (.tuple #[.pointer none, .bool true])) ∨ (okNew R fs = true ∧ ∃ P d r mb T fb S, e = .returned (.tuple #[.pointer (some ⟨P, 0, none⟩), .bool true]) ∧ w'.cell? ⟨P, 0, none⟩ = some (.pointer (some ⟨d, 0, none⟩)) ∧ w'.cell? ⟨P, 1, none⟩ = some (.pointer (some ⟨r, 0, none⟩)) ∧ ts T S P = 0 ∧ Two T S w' d mb fb (newM R.toNat fs) r { newR R.toNat fs with su := (newR R.toNat fs).now } ∧ (∀ b, b < w.heap.size → ts T S b = 0))
def PNewIs (w : World) (R : Int) (fs : List Fj) (e : Ending) (w' : World) : Prop := (okNew R fs = false ∧ e = .returned (.tuple #[.pointer none, .int .i64 36])) ∨ (okNew R fs = true ∧ ∃ d mb T fb, e = .returned (.tuple #[.pointer (some ⟨d, 0, none⟩), .int .i64 0]) ∧ Pd T w' d mb fb (newM R.toNat fs) ∧ ∀ b, b < w.heap.size → T b = 0)
theorem pnew2_any (R : Int) (hR : R ≤ 9223372036854775807) (a : Option Addr) (n c : Nat) (fs : List Fj) (ds : List (Option Addr × Nat)) (w : World) (h : FjAt w a fs ds) (hn : fs.length = n) (hc : n ≤ c) (hc2 : c ≤ 9223372036854775807) :
    Calls Try.prog 25 #[.int .i64 R, .slice a n c] w fun e w' => Below w.heap.size w w' ∧ PNewIs w R fs e w' := by
  by_cases hb : R < 0 ∨ 8388608 < n
  · refine (newbad_any R hR a n c (by omega) hb w).mono ?_
    rintro e w' ⟨rfl, rfl⟩
    refine ⟨Below.refl _ _, .inl ⟨?_, rfl⟩⟩
    rcases hb with hb | hb
    · exact okNew_neg hb
    · exact okNew_many (by omega)
  · obtain ⟨Rn, rfl⟩ : ∃ Rn : Nat, R = (Rn : Int) := ⟨R.toNat, by omega⟩
    have := new_any Rn (by omega) a c fs ds w h (by omega) hc2 (by omega)
    rw [hn] at this
    refine this.mono ?_
    rintro e w' ⟨hbe, h1 | ⟨h1, d, mb, T, fb, h2, h3, h4, h5⟩⟩
    · exact ⟨hbe, .inl h1⟩
    · exact ⟨hbe, .inr ⟨h1, d, mb, T, fb, h3, h4, h5⟩⟩
set_option maxHeartbeats 4000000 in
theorem begin2_any (R : Int) (hR : R ≤ 9223372036854775807) (a : Option Addr) (n c : Nat) (fs : List Fj) (ds : List (Option Addr × Nat)) (w : World) (h : FjAt w a fs ds) (hn : fs.length = n) (hc : n ≤ c) (hc2 : c ≤ 9223372036854775807) (hl : ∀ f ∈ fs, f.data.length ≤ 140737488355328) (hl2 : n ≤ 2932031007402) :
    Calls Try.prog 10 #[.int .i64 R, .slice a n c] w fun e w' => Below w.heap.size w w' ∧ BegIs w R fs e w' := by
  have HTW : Hid _ := ltwin_any a n c fs ds w h hn.symm hc hc2 hl hl2
  have HF : Hid (FjAt w a fs ds ∧ fs.length = n ∧ n ≤ c ∧ c ≤ 9223372036854775807 ∧ (∀ f ∈ fs, f.data.length ≤ 140737488355328) ∧ R ≤ 9223372036854775807) := ⟨h, hn, hc, hc2, hl, hR⟩
  clear h hn hc hc2 hl hl2
  go_enter Try.func10, Try.ntmps10
  go_wp2_with fail
  refine Calls.mono HTW.out ?_
  rintro e w1 ⟨v1, ds1, rfl, hfo, hb1⟩
  obtain ⟨a1, c1, rfl, hlc, hcc, hfa⟩ := hfo.at_ HF.out.1
  rw [HF.out.2.1] at hlc ⊢
  have HPN : Hid _ := pnew2_any R HF.out.2.2.2.2.2 a1 n c1 fs ds1 w1 hfa HF.out.2.1 hlc hcc
  have HB1 := HIDD hb1
  clear hfo hlc hcc hfa hb1 HTW
  go_wp2_with fail
  refine Calls.mono HPN.out ?_
  rintro e w2 ⟨hb2, hans⟩
  have HB2 := HIDD (keepB hb2 HB1.out)
  have HRN : Hid _ := rnew_any R HF.out.2.2.2.2.2 a n c fs ds w2 (HF.out.1.below HB2.out) HF.out.2.1 HF.out.2.2.1 HF.out.2.2.2.1 HF.out.2.2.2.2.1
  clear hb2 HPN
  rcases hans with ⟨hok, rfl⟩ | ⟨hok, d, mb, T, fb, rfl, hpd, htl⟩
  · have HOK := HIDD hok
    clear hok
    go_wp2_with fail
    refine Calls.mono HRN.out ?_
    rintro e w3 ⟨hb3, hans3⟩
    rcases hans3 with ⟨hok3, rfl⟩ | ⟨hok3, _⟩
    · have HB3 := HIDD (keepB hb3 HB2.out)
      clear hok3 hb3 HRN
      go_wp2
      go_ret2
      exact ⟨HB3.out, .inl ⟨HOK.out, rfl⟩⟩
    · rw [HOK.out] at hok3; cases hok3
  · have HOK := HIDD hok
    have HPD := HIDD (And.intro hpd htl)
    clear hok hpd htl
    go_wp2_with fail
    refine Calls.mono HRN.out ?_
    rintro e w3 ⟨hb3, hans3⟩
    rcases hans3 with ⟨hok3, rfl⟩ | ⟨hok3, r, S, gb, vf, vn, vs, vc, hrge, rfl, hrd, hrl⟩
    · rw [HOK.out] at hok3; cases hok3
    · have HB3 := HIDD (keepB hb3 HB2.out)
      have hb4 : Below w3.heap.size w3 (w3.alloc (.cells #[.pointer (some ⟨d, 0, none⟩), .pointer (some ⟨r, 0, none⟩)] 39)) := (Below.refl _ _).alloc (Nat.le_refl _) _
      have g4 : (w3.alloc (.cells #[.pointer (some ⟨d, 0, none⟩), .pointer (some ⟨r, 0, none⟩)] 39)).heap[w3.heap.size]? = some (.cells #[.pointer (some ⟨d, 0, none⟩), .pointer (some ⟨r, 0, none⟩)] 39) := heap_alloc_new w3 _
      have hap : ∀ b, T b = 0 ∨ S b = 0 := fun b => by
        by_cases hb : b < w2.heap.size
        · exact .inr (hrl b hb)
        · exact .inl (HPD.out.1.fresh (by omega))
      have htw : Two T S (w3.alloc (.cells #[.pointer (some ⟨d, 0, none⟩), .pointer (some ⟨r, 0, none⟩)] 39)) d mb fb (newM R.toNat fs) r { newR R.toNat fs with su := (newR R.toNat fs).now } := ⟨(HPD.out.1.below hb3).below hb4, (Re.of hrd).below hb4, hap⟩
      have HFI : Hid (Below w.heap.size w (w3.alloc (.cells #[.pointer (some ⟨d, 0, none⟩), .pointer (some ⟨r, 0, none⟩)] 39)) ∧ BegIs w R fs (.returned (.tuple #[.pointer (some ⟨w3.heap.size, 0, none⟩), .bool true])) (w3.alloc (.cells #[.pointer (some ⟨d, 0, none⟩), .pointer (some ⟨r, 0, none⟩)] 39))) :=
        ⟨keepB hb4 HB3.out, .inr ⟨HOK.out, w3.heap.size, d, r, mb, T, fb, S, rfl, by rw [cell_of g4]; rfl, by rw [cell_of g4]; rfl, ts0.2 ⟨HPD.out.1.fresh hb3.size, (Re.of hrd).fresh (Nat.le_refl _)⟩, htw, fun b hb => ts0.2 ⟨HPD.out.2 b (Nat.lt_of_lt_of_le hb HB1.out.size), hrl b (Nat.lt_of_lt_of_le hb HB2.out.size)⟩⟩⟩
      clear hb4 g4 hb3 hok3 hrd hrge HRN hap htw hrl
      go_wp2
      go_ret2
      exact HFI.out
/-- Both disks begin alike. -/
theorem new_rel (R : Nat) (fs : List Fj) : Rel id (newM R fs) { newR R fs with su := (newR R fs).now } := by
  have hm : ∀ l : List (Key × Nat), mp id l = l := fun l => by unfold mp; simp
  refine ⟨rfl, fun _ => rfl, rfl, rfl, (hm _).symm, fun k hk => ?_, fun i j _ _ h => h, fun i _ => rfl, fun c hc => by cases hc⟩
  have hk0 : k = 0 := by have : k ≤ 0 := hk; omega
  subst hk0
  rw [hm, bk_all (Nat.zero_le _)]
  rfl
end Dsk
end Go.Proofs.Ytbloifnibgdeoaa
namespace Go.Proofs.Ytbloifnibgdeoaa
namespace Dsk
open Go.RowKit Go.Shelf Go.Maps Go.Sort Byt Laws
set_option linter.unusedVariables false
set_option maxRecDepth 100000
set_option linter.unusedSimpArgs false
attribute [local go_sem ↓] Go.wp_at_zero Go.wp_at_succ

/-- A law's walk over a pair. -/
structure Pz (w : World) (T S : Nat → Nat) (W : World) (d mb : Nat) (fb : Nat → Nat) (m : Dm) (r : Nat) (rm : Rm) (P c : Nat) : Prop where
  pair : Pair T S W d mb fb m r rm c
  low : ∀ b, b < w.heap.size → ts T S b = 0
  go : Below w.heap.size w W
  p0 : W.cell? ⟨P, 0, none⟩ = some (.pointer (some ⟨d, 0, none⟩))
  p1 : W.cell? ⟨P, 1, none⟩ = some (.pointer (some ⟨r, 0, none⟩))
  pt : ts T S P = 0
theorem Pz.step {w : World} {T S : Nat → Nat} {W W' : World} {d mb : Nat} {fb : Nat → Nat} {m : Dm} {r : Nat} {rm : Rm} {P c : Nat} (h : Pz w T S W d mb fb m r rm P c) (hd : DoIs T S W W' d mb r (c + 1)) : ∃ T' S' fb' m' rm', Pz w T' S' W' d mb fb' m' r rm' P (c + 1) := by
  obtain ⟨T', S', fb', m', rm', hp, g2⟩ := hd
  have g := g2.goes
  obtain ⟨o1, o2⟩ := Goes.old h.go h.low g
  exact ⟨T', S', fb', m', rm', hp, o2, o1, cell_goes h.p0 h.pt g, cell_goes h.p1 h.pt g, (g.block P (World.block_lt_of_cell? W _ h.p0) h.pt).2⟩
theorem Pz.below {w : World} {T S : Nat → Nat} {W W' : World} {d mb : Nat} {fb : Nat → Nat} {m : Dm} {r : Nat} {rm : Rm} {P c : Nat} (h : Pz w T S W d mb fb m r rm P c) (hb : Below W.heap.size W W') : Pz w T S W' d mb fb m r rm P c := by
  have g : Goes (ts T S) (ts T S) W W' := Goes.below hb
  exact ⟨h.pair.below hb, h.low, h.go.trans (hb.mono h.go.size), cell_goes h.p0 h.pt g, cell_goes h.p1 h.pt g, h.pt⟩
theorem Pz.first {w w0 w' : World} {R : Int} {fs : List Fj} {P d r mb : Nat} {T : Nat → Nat} {fb : Nat → Nat} {S : Nat → Nat} (hb0 : Below w.heap.size w w0) (hb : Below w0.heap.size w0 w') (p0 : w'.cell? ⟨P, 0, none⟩ = some (.pointer (some ⟨d, 0, none⟩))) (p1 : w'.cell? ⟨P, 1, none⟩ = some (.pointer (some ⟨r, 0, none⟩))) (pt : ts T S P = 0) (htw : Two T S w' d mb fb (newM R.toNat fs) r { newR R.toNat fs with su := (newR R.toNat fs).now }) (hlow : ∀ b, b < w0.heap.size → ts T S b = 0) (hok : okNew R fs = true) : Pz w T S w' d mb fb (newM R.toNat fs) r { newR R.toNat fs with su := (newR R.toNat fs).now } P 0 := by
  have hl : fs.length ≤ 8388608 := by
    unfold okNew at hok
    simp only [Bool.and_eq_true, decide_eq_true_eq] at hok
    exact hok.1.1.1.2
  have hn : (newM R.toNat fs).now.length ≤ fs.length := by
    show (addAll [] 0 fs).length ≤ _
    have := addAll_len fs [] 0
    simpa using this
  have hc : (newM R.toNat fs).ch = [] := rfl
  have hf : ({ newR R.toNat fs with su := (newR R.toNat fs).now } : Rm).fl.length = fs.length := by
    show (flOf fs).length = _
    simp [flOf]
  refine ⟨⟨htw, ⟨id, new_rel _ _⟩, Hist.of htw.pd hc, ?_⟩, fun b hb' => hlow b (Nat.lt_of_lt_of_le hb' hb0.size), hb0.trans (hb.mono hb0.size), p0, p1, pt⟩
  rw [hc, hf]
  simp only [List.length_nil]
  omega
theorem opOk_below {w w' : World} {o : OpD} (h : OpOk w o) (hb : Below w.heap.size w w') : OpOk w' o := { h with isB := isB_goes (T := fun _ => 0) h.isB (fun _ _ => rfl) (Goes.below hb), ints := h.ints.below hb }
theorem ops_below {w w' : World} {a : Option Addr} {os : List OpD} (h : OpsAt w a os) (hb : Below w.heap.size w w') : OpsAt w' a os :=
  ⟨fun k o ho => by
    obtain ⟨b, off, e, hlt, hc⟩ := h.at_ k o ho
    exact ⟨b, off, e, Nat.lt_of_lt_of_le hlt hb.size, fun t ht => (hb.cell (p := ⟨b, off + k * 8 + t, none⟩) hlt).trans (hc t ht)⟩, fun o ho => opOk_below (h.ok o ho) hb⟩
set_option maxHeartbeats 4000000 in
theorem plays_any (w : World) (R : Int) (hR : R ≤ 9223372036854775807) (a : Option Addr) (n c : Nat) (fs : List Fj) (ds : List (Option Addr × Nat)) (h : FjAt w a fs ds) (hn : fs.length = n) (hc : n ≤ c) (hc2 : c ≤ 9223372036854775807) (hl : ∀ f ∈ fs, f.data.length ≤ 140737488355328) (hl2 : n ≤ 2932031007402) (a' : Option Addr) (n' c' : Nat) (os : List OpD) (ho : OpsAt w a' os) (hn' : n' = os.length) (hc' : n' ≤ c') (hc2' : c' ≤ 9223372036854775807) :
    Calls Try.prog 3 #[.int .i64 R, .slice a n c, .slice a' n' c'] w fun e w' => e = .returned (.bool true) ∧ Below w.heap.size w w' := by
  have HF : Hid (FjAt w a fs ds ∧ fs.length = n ∧ n ≤ c ∧ c ≤ 9223372036854775807 ∧ (∀ f ∈ fs, f.data.length ≤ 140737488355328) ∧ R ≤ 9223372036854775807 ∧ n ≤ 2932031007402) := ⟨h, hn, hc, hc2, hl, hR, hl2⟩
  have HO : Hid (OpsAt w a' os ∧ n' = os.length ∧ n' ≤ c' ∧ c' ≤ 9223372036854775807) := ⟨ho, hn', hc', hc2'⟩
  clear h hn hc hc2 hl hl2 ho hn' hc' hc2'
  go_enter Try.func3, Try.ntmps3
  go_wp2_with fail
  refine (known_any w).mono ?_
  rintro e w1 ⟨rfl, hb1⟩
  have HB1 := HIDD hb1
  have HSM : Hid _ := small_both a n c fs ds a' n' c' os w1 (HF.out.1.below hb1) HF.out.2.1.symm HF.out.2.2.1 HF.out.2.2.2.1 HF.out.2.2.2.2.1 (ops_below HO.out.1 hb1) HO.out.2.1 HO.out.2.2.1 HO.out.2.2.2
  clear hb1
  go_wp2_with fail
  refine Calls.mono HSM.out ?_
  rintro e w2 ⟨⟨bs, rfl, hbs⟩, q, rfl⟩
  have HB2 : Hid (Below w.heap.size w (w1.drewN q)) := below_drewN HB1.out q
  have HS := HIDD hbs
  clear HSM HB1 hbs
  generalize w1.drewN q = w2 at *
  cases bs with
  | false =>
    go_wp2
    go_ret
    exact ⟨rfl, HB2.out⟩
  | true =>
    have HBG : Hid _ := begin2_any R HF.out.2.2.2.2.2.1 a n c fs ds w2 (HF.out.1.below HB2.out) HF.out.2.1 HF.out.2.2.1 HF.out.2.2.2.1 HF.out.2.2.2.2.1 HF.out.2.2.2.2.2.2
    go_wp2_with fail
    refine Calls.mono HBG.out ?_
    rintro e w4 ⟨hb4, hans⟩
    have HB4 : Hid (Below w.heap.size w w4) := HB2.out.trans (hb4.mono HB2.out.size)
    clear HBG
    rcases hans with ⟨hok, rfl⟩ | ⟨hok, P, d, r, mb, T0, fb0, S0, rfl, p0, p1, pt, htw, hlow⟩
    · clear hok hb4
      go_wp2
      go_ret
      exact ⟨rfl, HB4.out⟩
    · have K0 : Hid (Pz w T0 S0 w4 d mb fb0 (newM R.toNat fs) r { newR R.toNat fs with su := (newR R.toNat fs).now } P 0) := Pz.first HB2.out hb4 p0 p1 pt htw hlow hok
      have HLE : Hid (os.length ≤ 400 ∧ sumO os ≤ 1048576) := ⟨(HS.out (by first | rfl | trivial)).2.2, (HS.out (by first | rfl | trivial)).2.1⟩
      have hn4 : n' ≤ 400 := by rw [HO.out.2.1]; exact HLE.out.1
      clear hok hb4 p0 p1 pt htw hlow HS HB2 HB4
      go_wp2_with fail
      go_loopw [10] (fun i wr => ∃ (k : Nat) (T S : Nat → Nat) (fb : Nat → Nat) (m : Dm) (rm : Rm), k ≤ n' ∧ i = .int .i64 (k : Int) ∧ Hid (Pz w T S wr d mb fb m r rm P k)) (fun i _ => n' - (intOf i).toNat)
      case atStart => exact ⟨0, T0, S0, fb0, _, _, Nat.zero_le _, rfl, K0.out⟩
      case round =>
        clear K0
        obtain ⟨k, T, S, fb, m, rm, hk, rfl, K⟩ := hrel
        rename World => W
        by_cases hlt : k < n'
        · have hlt' : (k : Int) < (n' : Int) := by omega
          have hks : k < os.length := by rw [← HO.out.2.1]; exact hlt
          obtain ⟨o, ho⟩ : ∃ o, os[k]? = some o := ⟨_, List.getElem?_eq_getElem hks⟩
          have hom := List.mem_of_getElem? ho
          obtain ⟨b, off, rfl, hbl, hcl⟩ := (ops_below HO.out.1 K.out.go).at_ k o ho
          have c0 : W.cell? ⟨b, off + k * 8, none⟩ = some (.int .i64 o.kind) := hcl 0 (by omega)
          have c1 : W.cell? ⟨b, off + k * 8 + 1, none⟩ = some (.string o.name) := hcl 1 (by omega)
          have c2 : W.cell? ⟨b, off + k * 8 + 2, none⟩ = some (.string o.too) := hcl 2 (by omega)
          have c3 : W.cell? ⟨b, off + k * 8 + 3, none⟩ = some (.slice o.da o.data.length o.dc) := hcl 3 (by omega)
          have c4 : W.cell? ⟨b, off + k * 8 + 4, none⟩ = some (.int .i64 o.x) := hcl 4 (by omega)
          have c5 : W.cell? ⟨b, off + k * 8 + 5, none⟩ = some (.int .i64 o.y) := hcl 5 (by omega)
          have c6 : W.cell? ⟨b, off + k * 8 + 6, none⟩ = some (.int .i64 o.z) := hcl 6 (by omega)
          have c7 : W.cell? ⟨b, off + k * 8 + 7, none⟩ = some (.slice o.ka o.keep.length o.kc) := hcl 7 (by omega)
          have hkp : o.keep.length ≤ 1048576 := by
            have z1 := sumO_take ho
            have z2 : sumO (os.take (k + 1)) + sumO (os.drop (k + 1)) = sumO os := by
              unfold sumO
              rw [← List.sum_append, ← List.map_append, List.take_append_drop]
            have z3 := HLE.out.2
            omega
          have HD : Hid _ := does_any K.out.pair (by omega) K.out.p0 K.out.p1 K.out.pt o (opOk_below (HO.out.1.ok o hom) K.out.go) (fun hne ad e => K.out.low _ (isB_lt (HO.out.1.ok o hom).isB hne ad e)) (fun hne ad e => K.out.low _ (ints_lt (HO.out.1.ok o hom).ints hne ad e)) hkp
          clear hcl ho hks hom hkp
          go_wp2_with fail
          refine Calls.mono HD.out ?_
          rintro e w5 ⟨rfl, hdo⟩
          obtain ⟨T5, S5, fb5, m5, rm5, hk5⟩ := K.out.step hdo
          have K5 := HIDD hk5
          clear hk5 hdo HD K c0 c1 c2 c3 c4 c5 c6 c7
          go_wp2_with fail
          go_roundw
          case rel => exact ⟨k + 1, T5, S5, fb5, m5, rm5, by omega, by go_num, K5.out⟩
          case measure => simp [intOf]; omega
        · have hlt' : ¬ ((k : Int) < (n' : Int)) := by omega
          go_wp2
          go_ret
          exact ⟨rfl, K.out.go⟩
end Dsk
end Go.Proofs.Ytbloifnibgdeoaa
