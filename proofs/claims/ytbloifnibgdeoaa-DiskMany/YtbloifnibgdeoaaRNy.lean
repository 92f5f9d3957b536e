import Derived.Test.YtbloifnibgdeoaaRNx
import Derived.BigQuiet
import Derived.Deep.DeepCutAuto
import Derived.Deep.RegionWith
namespace Go.Proofs.Ytbloifnibgdeoaa
namespace Dsk
open Go.RowKit Go.Shelf Go.Maps Go.Sort Byt Laws
set_option linter.unusedVariables false
set_option maxRecDepth 100000
set_option linter.unusedSimpArgs false
theorem HIDD {p : Prop} (h : p) : Hid p := h
theorem infoPF : (Try.prog.info? 96).map (fun i => (i.zero, i.size, i.bytes)) = some (some (.pointer none), 1, 8) := by kernel_rfl
theorem cell_of {W : World} {b i : Nat} {cs : Array Value} {t : TypeId} (h : W.heap[b]? = some (.cells cs t)) : W.cell? ⟨b, i, none⟩ = cs[i]? := by simp [World.cell?, h]
theorem keepB {w W w' : World} (hb : Below W.heap.size W w') (h : Below w.heap.size w W) : Below w.heap.size w w' := h.trans (hb.mono h.size)
theorem news2 (w : World) (o : Obj) (p : Value) (t : TypeId) : ∀ j u, [p][j]? = some u → ((w.alloc o).alloc (.cells #[p] t)).cell? ((⟨w.heap.size + 1, 0, none⟩ : Addr).add j) = some u := by
  intro j u hu
  cases j with
  | zero =>
    simp at hu
    subst hu
    have h1 : ((w.alloc o).alloc (.cells #[p] t)).heap[(w.alloc o).heap.size]? = some (.cells #[p] t) := heap_alloc_new _ _
    rw [World.size_alloc] at h1
    show World.cell? _ ⟨w.heap.size + 1, 0 + 0, none⟩ = _
    rw [cell_of h1]
    rfl
  | succ j => simp at hu
theorem sumF_int {fs : List Fj} {k n : Nat} (ha : fs.all okF = true) (hl : fs.length = k) (hk : k < n) (hn : (n : Int) ≤ 8388608) : ((sumF fs : Nat) : Int) ≤ 18014398509481984 := by
  have h1 := sumF_le2 ha
  rw [hl] at h1
  generalize sumF fs = S at *
  omega
theorem sumF_int2 {fs : List Fj} {n : Nat} (ha : fs.all okF = true) (hl : fs.length = n) (hn : (n : Int) ≤ 8388608) : ((sumF fs : Nat) : Int) ≤ 18014398509481985 := by
  have h1 := sumF_le2 ha
  rw [hl] at h1
  generalize sumF fs = S at *
  omega
set_option maxHeartbeats 40000000 in
theorem rnew_any (R : Int) (hR : R ≤ 9223372036854775807) (a : Option Addr) (n c : Nat) (fs : List Fj) (ds : List (Option Addr × Nat)) (w : World) (h : FjAt w a fs ds) (hn : fs.length = n) (hc : n ≤ c) (hc2 : c ≤ 9223372036854775807) (hl : ∀ f ∈ fs, f.data.length ≤ 140737488355328) :
    Calls Try.prog 39 #[.int .i64 R, .slice a n c] w fun e w' => Below w.heap.size w w' ∧ RNewAns w R fs e w' := by
  have HF : Hid (FjAt w a fs ds) := h
  have HN : Hid (fs.length = n) := hn
  have HL : Hid (∀ f ∈ fs, f.data.length ≤ 140737488355328) := hl
  have zn : (n : Int) ≤ 9223372036854775807 := by omega
  clear h hn hl
  by_cases h0 : R < 0
  · have HA : Hid (RNewAns w R fs (.returned (.tuple #[.pointer none, .int .i64 36])) w) := .inl ⟨okNew_neg h0, rfl⟩
    go_enter Try.func39, Try.ntmps39
    go_wp2
    go_ret2
    exact ⟨Below.refl _ _, HA.out⟩
  by_cases h8 : 8388608 < n
  · have HA : Hid (RNewAns w R fs (.returned (.tuple #[.pointer none, .int .i64 36])) w) := .inl ⟨okNew_many (by rw [HN.out]; exact h8), rfl⟩
    have h8' : (8388608 : Int) < (n : Int) := by omega
    have h0' : 0 ≤ R := by omega
    clear h0 h8
    go_enter Try.func39, Try.ntmps39
    go_wp2
    go_ret2
    exact ⟨Below.refl _ _, HA.out⟩
  obtain ⟨Rn, rfl⟩ : ∃ Rn : Nat, R = (Rn : Int) := ⟨R.toNat, by omega⟩
  have h8' : (n : Int) ≤ 8388608 := by omega
  have H8 : Hid (n ≤ 8388608 ∧ Rn ≤ 9223372036854775807) := ⟨by omega, by omega⟩
  have HRN0 : Hid (RnI w w.heap.size Rn [] (w.alloc (.cells #[.int .i64 Rn, .slice none 0 0, .slice none 0 0, .slice none 0 0, .slice none 0 0, .int .i64 0, .int .i64 0, .int .i64 0, .int .i64 0, .bool false] 95)) (upd (fun _ => 0) w.heap.size 1) (fun _ => 0) (.slice none 0 0) (.slice none 0 0)) := rn_first w Rn H8.out.2
  clear h0 h8
  go_enter Try.func39, Try.ntmps39
  go_wp2
  generalize hD : w.heap.size = D at *
  have HD : Hid (w.heap.size = D) := hD
  clear hD
  generalize w.alloc (.cells #[.int .i64 Rn, .slice none 0 0, .slice none 0 0, .slice none 0 0, .slice none 0 0, .int .i64 0, .int .i64 0, .int .i64 0, .int .i64 0, .bool false] 95) = W0 at *
  go_loopw [7, 8] (fun al i wr => ∃ (k : Nat) (T : Nat → Nat) (fb : Nat → Nat) (vf vn : Value), k ≤ n ∧ al = .int .i64 (sumF (fs.take k) : Int) ∧ i = .int .i64 (k : Int) ∧ Hid (RnI w D Rn (fs.take k) wr T fb vf vn ∧ (fs.take k).all okF = true ∧ noDup (fs.take k) = true)) (fun _ i _ => n - (intOf i).toNat)
  case atStart => exact ⟨0, _, _, _, _, Nat.zero_le _, by simp [sumF], rfl, by simpa using HRN0.out, by simp, by simp [noDup]⟩
  case round =>
    clear HRN0
    obtain ⟨k, T, fb, vf, vn, hk, rfl, rfl, HRN⟩ := hrel
    rename World => wr
    by_cases hlt : k < n
    · have zk : (k : Int) < (n : Int) := by omega
      have hks : k < fs.length := by rw [HN.out]; exact hlt
      obtain ⟨f, hf⟩ : ∃ f, fs[k]? = some f := ⟨_, List.getElem?_eq_getElem hks⟩
      obtain ⟨x, hx⟩ : ∃ x, ds[k]? = some x := ⟨_, List.getElem?_eq_getElem (by rw [HF.out.len]; exact hks)⟩
      obtain ⟨⟨b, off, rfl, c0, c1, c2⟩, hib, hnil, hle, hcx, hnm, hs1, hs2⟩ := (HF.out.below HRN.out.1.below).at_ k f x hf hx
      have hob := HL.out f (List.mem_of_getElem? hf)
      have HTK : Hid ((fs.take k).length = k ∧ fs.take (k + 1) = fs.take k ++ [f] ∧ f ∈ fs ∧ fs[k]? = some f) := ⟨by rw [List.length_take]; omega, by rw [List.take_add_one, hf]; rfl, List.mem_of_getElem? hf, hf⟩
      have HSF : Hid (sumF (fs.take (k + 1)) = sumF (fs.take k) + f.data.length ∧ ((sumF (fs.take k) : Nat) : Int) ≤ 18014398509481984) := ⟨sumF_take hf, sumF_int HRN.out.2.1 HTK.out.1 hlt h8'⟩
      obtain ⟨xa, xc⟩ := x
      obtain ⟨fn, fd, fs1⟩ := f
      dsimp only at c0 c1 c2 hib hnil hle hcx hnm hs1 hs2 hob HSF
      obtain ⟨DL, hDL⟩ : ∃ DL, fd.length = DL := ⟨_, rfl⟩
      rw [hDL] at c1 hle hob HSF
      obtain ⟨SF, hSF⟩ : ∃ SF, sumF (fs.take k) = SF := ⟨_, rfl⟩
      rw [hSF] at HSF ⊢
      have zSF : (SF : Int) ≤ 18014398509481984 := HSF.out.2
      have zDL : (DL : Int) ≤ 140737488355328 := by omega
      have HDL : Hid (fd.length = DL ∧ IsB wr xa fd ∧ (xa = none → xc = 0)) := ⟨hDL, hib, hnil⟩
      have hb1 : Below wr.heap.size wr (wr.alloc (.cells #[.string fn, .slice xa DL xc, .int .i64 fs1] 67)) := (Below.refl _ _).alloc (Nat.le_refl _) _
      have gV : (wr.alloc (.cells #[.string fn, .slice xa DL xc, .int .i64 fs1] 67)).heap[wr.heap.size]? = some (.cells #[.string fn, .slice xa DL xc, .int .i64 fs1] 67) := heap_alloc_new wr _
      clear hf hx hib hnil hDL hSF hks hle hcx
      go_upto_region 9 with (fail)
      generalize wr.alloc (.cells #[.string fn, .slice xa DL xc, .int .i64 fs1] 67) = W1 at *
      have HW1 : Hid (Below wr.heap.size wr W1 ∧ W1.heap[wr.heap.size]? = some (.cells #[.string fn, .slice xa DL xc, .int .i64 fs1] 67)) := ⟨hb1, gV⟩
      have v0 : W1.cell? ⟨wr.heap.size, 0, none⟩ = some (.string fn) := by rw [cell_of gV]; rfl
      have v1 : W1.cell? ⟨wr.heap.size, 1, none⟩ = some (.slice xa DL xc) := by rw [cell_of gV]; rfl
      have v2 : W1.cell? ⟨wr.heap.size, 2, none⟩ = some (.int .i64 fs1) := by rw [cell_of gV]; rfl
      have HBE : Hid (Below w.heap.size w W1) := keepB hb1 HRN.out.1.below
      clear hb1 gV c0 c1 c2
      have HRG : Hid (∀ W, Calls Try.prog 62 #[.string fn] W fun e w' => e = .returned (.bool (okN fn)) ∧ w' = W) := fun W => ref_right fn W (by unfold maxLen at hnm; exact hnm)
      have HOK : Hid (okF ⟨fn, fd, fs1⟩ = (okN fn && decide (DL ≤ 2147483648) && decide (0 ≤ fs1) && decide (fs1 ≤ (DL : Int)))) := by
        show okF _ = _
        unfold okF
        simp only [HDL.out.1]
      have HBD : Hid (okF ⟨fn, fd, fs1⟩ = false → Below w.heap.size w W1 ∧ RNewAns w (Rn : Int) fs (.returned (.tuple #[.pointer none, .int .i64 36])) W1) := fun hbad => ⟨HBE.out, .inl ⟨okNew_bad HTK.out.2.2.1 hbad, rfl⟩⟩
      clear hnm
      generalize okN fn = bN at *
      cases bN with
      | false =>
        have HX := HIDD (HBD.out (by rw [HOK.out]; rfl))
        go_wp2_with (go_at_call 62; refine (HRG.out _).mono ?_; rintro e w5 ⟨rfl, hw5⟩; have hw6 := hw5.symm; clear hw5; subst hw6)
        go_ret2
        exact HX.out
      | true =>
        by_cases g2 : DL ≤ 2147483648
        · by_cases g3 : 0 ≤ fs1
          · by_cases g4 : fs1 ≤ (DL : Int)
            · have z2 : (DL : Int) ≤ 2147483648 := by omega
              have HGD : Hid (okF ⟨fn, fd, fs1⟩ = true) := by
                show _ = _
                rw [HOK.out, decide_eq_true g2, decide_eq_true g3, decide_eq_true g4]
                rfl
              clear HOK HBD
              have HR1 : Hid (RnI w D Rn (fs.take k) W1 T fb vf vn) := HRN.out.1.under HW1.out.1
              obtain ⟨af, cf, hvf⟩ := own_slice HR1.out.rd.fls
              obtain ⟨an, cn, hvn⟩ := own_slice HR1.out.rd.dir
              obtain ⟨NL, hNL⟩ : ∃ NL, (newR Rn (fs.take k)).now.length = NL := ⟨_, rfl⟩
              have HLL : Hid ((newR Rn (fs.take k)).fl.length = k ∧ (newR Rn (fs.take k)).now.length = NL ∧ NL ≤ k) := ⟨by show (flOf (fs.take k)).length = k; rw [flOf_len]; exact HTK.out.1, hNL, by rw [← hNL]; show (addAll [] 0 (fs.take k)).length ≤ k; have h1 := addAll_len (fs.take k) [] 0; have h2 := HTK.out.1; simp only [List.length_nil] at h1; omega⟩
              rw [HLL.out.1] at hvf
              rw [hNL] at hvn
              have HVV : Hid (vf = .slice af k cf ∧ vn = .slice an NL cn) := ⟨hvf, hvn⟩
              have hfc : k ≤ cf := by
                have h1 := HR1.out.rd.fls
                rw [hvf, HLL.out.1] at h1
                rcases h1.2 with ⟨e, e0⟩ | ⟨g, cap, cur, e, _, _, h3, _⟩
                · cases e; omega
                · cases e; exact h3
              clear hNL
              subst hvf hvn
              have hEN := enR_own (by have h1 := HR1.out.rd.dir; rw [HLL.out.2.1] at h1; exact h1)
              have HFD : Hid (∀ W, Below W1.heap.size W1 W → Calls Try.prog 73 #[.slice an NL cn, .string fn] W fun e w' => e = .returned (.tuple #[.int .i64 (plc (newR Rn (fs.take k)).now fn.data.toList : Nat), .bool (look (newR Rn (fs.take k)).now fn.data.toList).isSome]) ∧ Below W1.heap.size W1 w') := fun W hW => by
                have hE := enR_own (by have h1 := (HR1.out.under hW).rd.dir; rw [HLL.out.2.1] at h1; exact h1)
                refine (find_any an NL cn _ W (HR1.out.rd.rises) hE.2.2 hE.1 (by have h1 := HLL.out.2.2; have h2 := H8.out.1; omega) hE.2.1 fn).mono ?_
                rintro e w' ⟨h1, j, rfl⟩
                exact ⟨h1, below_drewN hW _⟩
              have hnc : NL ≤ cn := hEN.2.1
              clear hEN
              have HFC : Hid (∀ W, Below W1.heap.size W1 W → W.cell? ⟨D, 1, none⟩ = some (.slice af k cf) ∧ W.cell? ⟨D, 2, none⟩ = some (.slice an NL cn) ∧ W.cell? ⟨wr.heap.size, 0, none⟩ = some (.string fn) ∧ W.cell? ⟨wr.heap.size, 1, none⟩ = some (.slice xa DL xc) ∧ W.cell? ⟨wr.heap.size, 2, none⟩ = some (.int .i64 fs1) ∧ W.frozen? ⟨D, 1, none⟩ = false ∧ W.frozen? ⟨D, 2, none⟩ = false) := fun W hW => by
                have h1 := (HR1.out.under hW).rd.top
                have g1 := (hW.block _ (Array.getElem?_eq_some_iff.1 HW1.out.2).1).trans HW1.out.2
                exact ⟨(h1.2 1 (by omega)).1, (h1.2 2 (by omega)).1, by rw [cell_of g1]; rfl, by rw [cell_of g1]; rfl, by rw [cell_of g1]; rfl, (h1.2 1 (by omega)).2, (h1.2 2 (by omega)).2⟩
              obtain ⟨P, hP⟩ : ∃ P : Nat, plc (newR Rn (fs.take k)).now fn.data.toList = P := ⟨_, rfl⟩
              rw [hP] at HFD
              clear hP
              obtain ⟨lk, hlk⟩ : ∃ lk, look (newR Rn (fs.take k)).now fn.data.toList = lk := ⟨_, rfl⟩
              rw [hlk] at HFD
              have HLK : Hid (look (newR Rn (fs.take k)).now fn.data.toList = lk) := hlk
              have HVB : Hid (wr.heap.size < W1.heap.size) := (Array.getElem?_eq_some_iff.1 HW1.out.2).1
              obtain ⟨d1, d2, _, _, _, _, _⟩ := HFC.out W1 (Below.refl _ _)
              clear hlk
              go_wp2_with (go_at_call 62; refine (HRG.out _).mono ?_; rintro e w5 ⟨rfl, hw5⟩; have hw6 := hw5.symm; clear hw5; subst hw6)
              have hS1 : W1.drew.cell? ⟨D, 2, none⟩ = some (.slice an NL cn) ∧ W1.drew.cell? ⟨wr.heap.size, 0, none⟩ = some (.string fn) := ⟨d2, v0⟩
              go_region_held3 (fun W => W.cell? ⟨D, 2, none⟩ = some (.slice an NL cn) ∧ W.cell? ⟨wr.heap.size, 0, none⟩ = some (.string fn)) (first | assumption | exact hS1)
                (first
                | (go_at_call 73; go_loud (refine (HFD.out _ (Below.refl _ _).drew).mono ?_; rintro e w5 ⟨rfl, hb5⟩; have HB5 := HIDD hb5; obtain ⟨r1, r2, r3, r4, r5, r6, r7⟩ := HFC.out w5 hb5; have hS5 : w5.cell? ⟨D, 2, none⟩ = some (.slice an NL cn) ∧ w5.cell? ⟨wr.heap.size, 0, none⟩ = some (.string fn) := ⟨r2, r3⟩; clear hb5)))
              clear hS1 hS5 d1 d2 v0 v1 v2 HFD
              cases lk with
              | some q =>
                have HX : Hid (Below w.heap.size w w5 ∧ RNewAns w (Rn : Int) fs (.returned (.tuple #[.pointer none, .int .i64 36])) w5) := ⟨keepB HB5.out HBE.out, .inl ⟨okNew_dup ((noDup_take HTK.out.2.2.2 HRN.out.2.2).2 (by show look (addAll [] 0 (fs.take k)) _ ≠ none; have h1 := HLK.out; unfold newR at h1; intro h2; rw [h2] at h1; cases h1)), rfl⟩⟩
                go_wp2
                go_ret2
                exact HX.out
              | none =>
                have HR5 : Hid (RnI w D Rn (fs.take k) w5 T fb (.slice af k cf) (.slice an NL cn)) := HR1.out.under HB5.out
                have HIB5 : Hid (IsB w5 xa fd ∧ (xa = none → xc = 0) ∧ fd.length = DL) := ⟨(HDL.out.2.1.below HW1.out.1).below HB5.out, HDL.out.2.2, HDL.out.1⟩
                have HOF : Hid (w5.ownsRow 0 96 1 (.slice af k cf) k (ptrRow fb k)) := by
                  have h1 := HR5.out.rd.fls
                  rw [HLL.out.1] at h1
                  exact h1
                have HTV : Hid (T wr.heap.size = 0 ∧ wr.heap.size < w5.heap.size) := ⟨HRN.out.1.rd.fresh _ (Nat.le_refl _), Nat.lt_of_lt_of_le HVB.out HB5.out.size⟩
                have HFT : Hid (∀ w6 w7 a6 c6 g7 c7, Below w5.heap.size w5 w6 → New 5 w5.heap.size w6 a6 c6 fd → w7.ownsRow 0 96 1 (.slice (some ⟨g7, 0, none⟩) (k + 1) c7) (k + 1) (ptrRow fb k ++ [.pointer (some ⟨w6.heap.size, 0, none⟩)]) → ((w6.alloc (.cells #[.slice a6 fd.length c6, .int .i64 fs1] 100)).alloc (.cells #[.pointer (some ⟨w6.heap.size, 0, none⟩)] 96)).grownBy w7 (Value.slice af k cf).ownBlock → ((Value.slice af k cf).ownBlock = some g7 ∨ g7 = w6.heap.size + 2) → (w7.cell? ⟨D, 1, none⟩ = some (.slice af k cf) ∧ w7.frozen? ⟨D, 1, none⟩ = false) ∧ ∃ T' fb', Rd T' (w7.setCell ⟨D, 1, none⟩ (.slice (some ⟨g7, 0, none⟩) (k + 1) c7)) D fb' { newR Rn (fs.take k) with fl := (newR Rn (fs.take k)).fl ++ [⟨fd, fs1.toNat⟩] } (.slice (some ⟨g7, 0, none⟩) (k + 1) c7) (.slice an NL cn) (.slice none 0 0) (.slice none 0 0) ∧ (∀ b, b < w.heap.size → T' b = 0) ∧ Below w.heap.size w (w7.setCell ⟨D, 1, none⟩ (.slice (some ⟨g7, 0, none⟩) (k + 1) c7)) ∧ ∀ b, b < w5.heap.size → T b = 0 → (w7.setCell ⟨D, 1, none⟩ (.slice (some ⟨g7, 0, none⟩) (k + 1) c7)).heap[b]? = w5.heap[b]? ∧ T' b = 0) := fun w6 w7 a6 c6 g7 c7 hb6 hn6 ho7 hg7 ha7 => by
                  have hkp : Keep (Value.slice af k cf).ownBlock.toList w5 w7 := (((Keep.below hb6).trans (Keep.alloc _ _ _)).trans (Keep.alloc _ _ _)).trans (Keep.grown hg7)
                  have htop := HR5.out.rd.top.keep hkp (fun hm => by have h1 := HR5.out.rd.tf D (by simpa using hm); have h2 := HR5.out.rd.td; omega)
                  refine ⟨⟨(htop.2 1 (by omega)).1, (htop.2 1 (by omega)).2⟩, ?_⟩
                  exact rn_born (f := ⟨fn, fd, fs1⟩) (k := k) HR5.out HTK.out.1 HGD.out hb6 hn6 (by have h1 := H8.out.1; omega) ho7 hg7 (ha7.imp id (by intro e; omega))
                obtain ⟨iP, hiP, hp0, hp1, hp2⟩ := info_parts infoPF
                obtain ⟨i8, hi8, hy0, hy1, hy2⟩ := info_parts infoB
                have zk8 : k + 1 ≤ 1000000000 := by have h1 := H8.out.1; omega
                have hDs : D < w5.heap.size := HR5.out.rd.top.1
                have hVs : wr.heap.size < w5.heap.size := HTV.out.2
                have HXA : Hid (IsB w5.drew xa fd) := HIB5.out.1.below (Below.refl _ _).drew
                go_upto_region 14 with (fail)
                go_cut [6] (fun vd w' => vd = .pointer (some ⟨D, 0, none⟩) ∧ ∃ (g7 c7 : Nat), Hid (∃ T' fb', Rd T' w' D fb' { newR Rn (fs.take k) with fl := (newR Rn (fs.take k)).fl ++ [⟨fd, fs1.toNat⟩] } (.slice (some ⟨g7, 0, none⟩) (k + 1) c7) (.slice an NL cn) (.slice none 0 0) (.slice none 0 0) ∧ (∀ b, b < w.heap.size → T' b = 0) ∧ Below w.heap.size w w' ∧ ∀ b, b < w5.heap.size → T b = 0 → w'.heap[b]? = w5.heap[b]? ∧ T' b = 0))
                case first =>
                  go_wp2
                  go_region_law (first
                    | (revert HCB; intro HCB; (refine step_app _ (by rfl) (.tmp 70) (.tmp 78) 91 (by rfl) 0 96 iP _ 1 8 Try.underlying91 hiP hp0 hp1 hp2 rfl (by omega) (.slice af k cf) k (ptrRow fb k) (by rfl) ((HCB.out.2.2.alloc _).alloc _) ⟨w6.heap.size + 1, 0, none⟩ 1 1 [.pointer (some ⟨w6.heap.size, 0, none⟩)] (by rfl) (by first | rfl | (simp [Act.eval, Act.put])) (news2 w6 _ _ _) (by intro u hu; simp at hu; subst hu; rfl) (by intro _; omega) (by unfold maxLen; omega) (by omega) (Nat.zero_le _) (w6.heap.size + 2) (by simp) ?_; intro g7 c7 w7 hown7 hgr7 hat7 hlt7; obtain ⟨⟨s1, s2⟩, hf7⟩ := HFT.out w6 w7 a6 c6 g7 c7 HCB.out.1 HCB.out.2.1 hown7 hgr7 hat7; have HF7 := HIDD hf7; clear hown7 hgr7 hat7 hlt7 hf7))
                    | (refine step_cloneB _ (by rfl) (.const (.slice none 0 0)) (.tmp 72) 30 (by rfl) 5 i8 Try.underlying30 hi8 hy0 hy1 hy2 (by rfl) xa DL xc fd (by rfl) HIB5.out.2.2.symm HIB5.out.2.1 HXA.out hob ?_; intro a6 c6 w6 hn6 hb6; have hb6' : Below w5.heap.size w5 w6 := ((Below.refl w5.heap.size w5).drew).trans hb6; have HCB : Hid (Below w5.heap.size w5 w6 ∧ New 5 w5.heap.size w6 a6 c6 fd ∧ w6.ownsRow 0 96 1 (.slice af k cf) k (ptrRow fb k)) := ⟨hb6', hn6, (Keep.below (bs := []) hb6').own HOF.out (by simp)⟩; have t1 : w6.cell? ⟨D, 1, none⟩ = some (.slice af k cf) := (hb6'.cell (p := ⟨D, 1, none⟩) hDs).trans r1; have t5 : w6.cell? ⟨wr.heap.size, 2, none⟩ = some (.int .i64 fs1) := (hb6'.cell (p := ⟨wr.heap.size, 2, none⟩) hVs).trans r5; have hDs6 : D < w6.heap.size := Nat.lt_of_lt_of_le hDs hb6'.size; have hVs6 : wr.heap.size < w6.heap.size := Nat.lt_of_lt_of_le hVs hb6'.size; clear hn6 hb6 hb6'))
                  all_goals (
                    go_wp2
                    go_meet
                    case rel => exact ⟨rfl, g7, c7, HF7⟩)
                case rest =>
                  obtain ⟨rfl, g7, c7, HF7⟩ := hcut
                  rename World => W9
                  clear r1 r2 r3 r4 r5 r6 r7
                  obtain ⟨T9, fb9, hrd9, hlow9, hbe9, hkz9⟩ := HF7.out
                  have HR9 : Hid (Rd T9 W9 D fb9 { newR Rn (fs.take k) with fl := (newR Rn (fs.take k)).fl ++ [⟨fd, fs1.toNat⟩] } (.slice (some ⟨g7, 0, none⟩) (k + 1) c7) (.slice an NL cn) (.slice none 0 0) (.slice none 0 0) ∧ (∀ b, b < w.heap.size → T9 b = 0) ∧ Below w.heap.size w W9) := ⟨hrd9, hlow9, hbe9⟩
                  have HV9 : Hid (T9 wr.heap.size = 0 ∧ W9.heap[wr.heap.size]? = some (.cells #[.string fn, .slice xa DL xc, .int .i64 fs1] 67)) := ⟨(hkz9 _ HTV.out.2 HTV.out.1).2, (hkz9 _ HTV.out.2 HTV.out.1).1.trans ((HB5.out.block _ HVB.out).trans HW1.out.2)⟩
                  clear hrd9 hlow9 hbe9 hkz9 HF7 HFT HOF HXA HIB5
                  have HFC9 : Hid (∀ W, Below W9.heap.size W9 W → W.cell? ⟨D, 1, none⟩ = some (.slice (some ⟨g7, 0, none⟩) (k + 1) c7) ∧ W.cell? ⟨D, 2, none⟩ = some (.slice an NL cn) ∧ W.cell? ⟨wr.heap.size, 0, none⟩ = some (.string fn)) := fun W hW => by
                    have h1 := (HR9.out.1.below hW).top
                    have g1 := (hW.block _ (Array.getElem?_eq_some_iff.1 HV9.out.2).1).trans HV9.out.2
                    exact ⟨(h1.2 1 (by omega)).1, (h1.2 2 (by omega)).1, by rw [cell_of g1]; rfl⟩
                  have HWT : Hid (∀ (y : Int) W, y = (k : Int) → Below W9.heap.size W9 W → Calls Try.prog 66 #[.slice an NL cn, .string fn, .int .i64 y] W fun e w' => ∃ g cap, e = .returned (.slice (some ⟨g, 0, none⟩) (NL + 1) cap) ∧ (w'.cell? ⟨D, 2, none⟩ = some (.slice an NL cn) ∧ w'.frozen? ⟨D, 2, none⟩ = false) ∧ Hid (∃ T', RnI w D Rn (fs.take (k + 1)) (w'.setCell ⟨D, 2, none⟩ (.slice (some ⟨g, 0, none⟩) (NL + 1) cap)) T' fb9 (.slice (some ⟨g7, 0, none⟩) (k + 1) c7) (.slice (some ⟨g, 0, none⟩) (NL + 1) cap) ∧ (w'.setCell ⟨D, 2, none⟩ (.slice (some ⟨g, 0, none⟩) (NL + 1) cap)).heap[wr.heap.size]? = some (.cells #[.string fn, .slice xa DL xc, .int .i64 fs1] 67))) := fun y W hy hW => by
                    subst hy
                    have hrW := HR9.out.1.below hW
                    have hdir := hrW.dir
                    have hnl : ({ newR Rn (fs.take k) with fl := (newR Rn (fs.take k)).fl ++ [⟨fd, fs1.toNat⟩] } : Rm).now.length = NL := HLL.out.2.1
                    rw [hnl] at hdir
                    refine (with_new 0 (.slice an NL cn) NL (newR Rn (fs.take k)).now W hdir (Nat.zero_le _) hrW.rises (by have h1 := HLL.out.2.2; have h2 := H8.out.1; omega) fn k HLK.out).mono ?_
                    rintro e w' ⟨g, cap, rfl, hown, hkp, hat⟩
                    have htop := hrW.top.keep hkp (fun hm => by have h1 := hrW.tn D (by simpa using hm); have h2 := hrW.td; omega)
                    have hNL := HLL.out.2.1
                    have hbW := keepB hW HR9.out.2.2
                    have hgo := rn_named (w := w) (f := ⟨fn, fd, fs1⟩) (k := k) (g := g) (c2 := cap) HTK.out.1 hrW HR9.out.2.1 hbW HLK.out (by have h2 := H8.out.1; omega) (by rw [hNL]; exact hown) hkp hat
                    rw [hNL, ← HTK.out.2.1] at hgo
                    obtain ⟨T', hg1, hg2⟩ := hgo
                    have hVlt : wr.heap.size < W.heap.size := Nat.lt_of_lt_of_le (Array.getElem?_eq_some_iff.1 HV9.out.2).1 hW.size
                    refine ⟨g, cap, rfl, ⟨(htop.2 2 (by omega)).1, (htop.2 2 (by omega)).2⟩, T', hg1, ?_⟩
                    rw [hg2 _ hVlt HV9.out.1]
                    exact (hW.block _ (Array.getElem?_eq_some_iff.1 HV9.out.2).1).trans HV9.out.2
                  have qk : IntKind.i64.wrap (((k + 1 : Nat) : Int) - 1) = (k : Int) := by rw [IntWalk.i64_in _ (by omega)]; omega
                  have qk2 : IntKind.i64.wrap ((k : Int) + 1 - 1) = (k : Int) := by rw [IntWalk.i64_in _ (by omega)]; omega
                  obtain ⟨r1, r2, r3⟩ := HFC9.out W9 (Below.refl _ _)
                  go_upto_region 15 with (fail)
                  go_cut [6] (fun vd w' => vd = .pointer (some ⟨D, 0, none⟩) ∧ ∃ (g c : Nat) (T' : Nat → Nat), Hid (RnI w D Rn (fs.take (k + 1)) w' T' fb9 (.slice (some ⟨g7, 0, none⟩) (k + 1) c7) (.slice (some ⟨g, 0, none⟩) (NL + 1) c) ∧ w'.heap[wr.heap.size]? = some (.cells #[.string fn, .slice xa DL xc, .int .i64 fs1] 67)))
                  case first =>
                    clear HFC9
                    go_region_with (go_at_call 66; go_loud (refine (HWT.out _ _ (by first | exact qk | exact qk2 | rfl | omega | (rw [IntKind.wrap_i64]; omega)) (Below.refl _ _).drew).mono ?_; rintro e w10 ⟨g10, c10, rfl, ⟨s1, s2⟩, hfin⟩; obtain ⟨T10, hf10⟩ := hfin.out; have HF10 := HIDD hf10; clear hf10 hfin))
                    all_goals (
                      go_wp2
                      go_meet
                      case rel => exact ⟨rfl, g10, c10, T10, HF10⟩)
                  case rest =>
                    clear r1 r2 r3
                    obtain ⟨rfl, g10, c10, T10, HF10⟩ := hcut
                    rename World => WE
                    have v1 : WE.cell? ⟨wr.heap.size, 1, none⟩ = some (.slice xa DL xc) := by rw [cell_of HF10.out.2]; rfl
                    have HNX : Hid ((fs.take (k + 1)).all okF = true ∧ noDup (fs.take (k + 1)) = true) := ⟨by rw [HTK.out.2.1, List.all_append, HRN.out.2.1]; simp [HGD.out], (noDup_take HTK.out.2.2.2 HRN.out.2.2).1 HLK.out⟩
                    go_wp2
                    go_roundw
                    case rel => exact ⟨k + 1, T10, fb9, _, _, by omega, by rw [HSF.out.1]; go_num, by go_num, HF10.out.1, HNX.out⟩
                    case measure => simp [intOf]; omega
            · have HX := HIDD (HBD.out (by rw [HOK.out, decide_eq_false g4]; simp))
              have z2 : (DL : Int) ≤ 2147483648 := by omega
              have z4 : (DL : Int) < fs1 := by omega
              clear g4
              go_wp2_with (go_at_call 62; refine (HRG.out _).mono ?_; rintro e w5 ⟨rfl, hw5⟩; have hw6 := hw5.symm; clear hw5; subst hw6)
              go_ret2
              exact HX.out
          · have HX := HIDD (HBD.out (by rw [HOK.out, decide_eq_false g3]; simp))
            have z2 : (DL : Int) ≤ 2147483648 := by omega
            have z3 : fs1 < 0 := by omega
            clear g3
            go_wp2_with (go_at_call 62; refine (HRG.out _).mono ?_; rintro e w5 ⟨rfl, hw5⟩; have hw6 := hw5.symm; clear hw5; subst hw6)
            go_ret2
            exact HX.out
        · have HX := HIDD (HBD.out (by rw [HOK.out, decide_eq_false g2]; simp))
          have z2 : (2147483648 : Int) < (DL : Int) := by omega
          clear g2
          go_wp2_with (go_at_call 62; refine (HRG.out _).mono ?_; rintro e w5 ⟨rfl, hw5⟩; have hw6 := hw5.symm; clear hw5; subst hw6)
          go_ret2
          exact HX.out
    · obtain rfl : k = n := by omega
      have HTE : Hid (fs.take k = fs) := by show _ = _; rw [← HN.out]; exact List.take_length
      rw [HTE.out] at HRN ⊢
      obtain ⟨SF, hSF⟩ : ∃ SF, sumF fs = SF := ⟨_, rfl⟩
      obtain ⟨an, cn, hvn⟩ := own_slice HRN.out.1.rd.dir
      obtain ⟨NL, hNL⟩ : ∃ NL, (newR Rn fs).now.length = NL := ⟨_, rfl⟩
      rw [hNL] at hvn
      have HNL : Hid ((newR Rn fs).now.length = NL ∧ vn = .slice an NL cn ∧ (NL : Int) ≤ 8388608) := ⟨hNL, hvn, by rw [← hNL]; have h1 : (newR Rn fs).now.length ≤ k := (by show (addAll [] 0 fs).length ≤ k; have h1 := addAll_len fs [] 0; have h2 := HN.out; simp only [List.length_nil] at h1; omega); omega⟩
      subst hvn
      have HOE : Hid (okNew (Rn : Int) fs = (decide (Rn = 0) || decide (SF ≤ Rn))) := by
        show _ = _
        rw [← hSF]
        exact okNew_end (by rw [HN.out]; exact H8.out.1) HRN.out.2.1 HRN.out.2.2
      rw [hSF]
      have zSF : (SF : Int) ≤ 18014398509481985 := by rw [← hSF]; exact sumF_int2 HRN.out.2.1 HN.out h8'
      clear hNL hSF
      have HBA : Hid (okNew (Rn : Int) fs = false → Below w.heap.size w wr ∧ RNewAns w (Rn : Int) fs (.returned (.tuple #[.pointer none, .int .i64 36])) wr) := fun hbad => ⟨HRN.out.1.below, .inl ⟨hbad, rfl⟩⟩
      have HTW : Hid (okNew (Rn : Int) fs = true → ∀ W, Below wr.heap.size wr W → Calls Try.prog 58 #[.slice an NL cn] W fun e w' => ∃ a' c', e = .returned (.slice a' NL c') ∧ ((∃ x, w'.cell? ⟨D, 3, none⟩ = some x) ∧ w'.frozen? ⟨D, 3, none⟩ = false) ∧ Hid (Below w.heap.size w (w'.setCell ⟨D, 3, none⟩ (.slice a' NL c')) ∧ RNewAns w (Rn : Int) fs (.returned (.tuple #[.pointer (some ⟨D, 0, none⟩), .int .i64 0])) (w'.setCell ⟨D, 3, none⟩ (.slice a' NL c')))) := fun hgood W hW => by
        have hr := HRN.out.1.under hW
        have hdir := hr.rd.dir
        rw [HNL.out.1] at hdir
        refine (rtwin_any 0 (.slice an NL cn) NL (newR Rn fs).now W hdir (by have := HNL.out.2.2; omega)).mono ?_
        rintro e w' ⟨v', rfl, hown, hb'⟩
        obtain ⟨a', c', hv'⟩ := own_slice hown
        subst hv'
        have htop := hr.rd.top.keep (Keep.below (bs := []) hb') (by simp)
        obtain ⟨T', h1, h2, h3⟩ := hr.rd.sured (v2 := .slice a' NL c') (w2 := w') (by rw [HNL.out.1]; exact hown) hb'
        have hbw := keepB hb' hr.below
        refine ⟨a', c', rfl, ⟨⟨_, (htop.2 3 (by omega)).1⟩, (htop.2 3 (by omega)).2⟩, below_keep hr.below h2 (fun b hm => ?_), .inr ⟨hgood, D, T', fb, vf, .slice an NL cn, .slice a' NL c', .slice none 0 0, by rw [HD.out]; exact Nat.le_refl _, rfl, ?_, fun b hlt => ?_⟩⟩
        · simp at hm
          rw [hm, HD.out]
          exact Nat.le_refl _
        · rw [Int.toNat_natCast]
          exact h1
        · rw [h3 b (Nat.lt_of_lt_of_le hlt hr.below.size)]
          exact hr.low b hlt
      have c2 : wr.cell? ⟨D, 2, none⟩ = some (.slice an NL cn) := (HRN.out.1.rd.top.2 2 (by omega)).1
      by_cases e0 : Rn = 0
      · subst e0
        have HTW2 := HIDD (HTW.out (by rw [HOE.out]; simp) wr (Below.refl _ _))
        have z0 : ((0 : Nat) : Int) = 0 := rfl
        clear HTW HBA
        go_wp2_with (go_at_call 58; go_loud (refine HTW2.out.mono ?_; rintro e w9 ⟨a9, c9, rfl, ⟨⟨x9, s1⟩, s2⟩, hf9⟩))
        go_ret2
        exact hf9.out
      · have z0 : ((Rn : Int) == 0) = false := by rw [beq_eq_false_iff_ne]; omega
        have z0' : ¬ (Rn : Int) = 0 := by omega
        by_cases e1 : SF ≤ Rn
        · have HTW2 := HIDD (HTW.out (by rw [HOE.out, decide_eq_true e1]; simp) wr (Below.refl _ _))
          have z1 : (SF : Int) ≤ (Rn : Int) := by omega
          clear HTW HBA e0 e1
          go_wp2_with (go_at_call 58; go_loud (refine HTW2.out.mono ?_; rintro e w9 ⟨a9, c9, rfl, ⟨⟨x9, s1⟩, s2⟩, hf9⟩))
          go_ret2
          exact hf9.out
        · have HX := HIDD (HBA.out (by rw [HOE.out, decide_eq_false e0, decide_eq_false e1]; rfl))
          have z1 : (Rn : Int) < (SF : Int) := by omega
          clear HTW HBA e0 e1
          go_wp2
          go_ret2
          exact HX.out
end Dsk
end Go.Proofs.Ytbloifnibgdeoaa
