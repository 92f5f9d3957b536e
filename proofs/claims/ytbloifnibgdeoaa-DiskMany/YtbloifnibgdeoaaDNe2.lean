import Derived.Test.YtbloifnibgdeoaaDNew
import Derived.Deep.RegionHeld3
namespace Go.Proofs.Ytbloifnibgdeoaa
namespace Dsk
open Go.RowKit Go.Shelf Go.Maps Go.Sort Byt Laws
set_option linter.unusedVariables false
set_option maxRecDepth 100000

theorem look_addAll (k : Key) : ∀ (fs : List Fj) (l : List (Key × Nat)) (i : Nat), (look (addAll l i fs) k = none ↔ look l k = none ∧ k ∉ fs.map fun f => ky f.name)
  | [], l, i => by simp [addAll]
  | f :: r, l, i => by
    rw [addAll, look_addAll k r]
    by_cases e : k = ky f.name
    · subst e; rw [look_ins_same]; simp
    · rw [look_ins_other _ _ e]; simp [e]
def noDup (fs : List Fj) : Bool := decide ((fs.map fun f => ky f.name).Nodup)
/-- P3.1: what a disk can begin with. -/
def okNew (room : Int) (fs : List Fj) : Bool := decide (0 ≤ room) && decide (fs.length ≤ 8388608) && fs.all okF && (decide (room = 0) || decide ((sumF fs : Int) ≤ room)) && noDup fs
theorem used_bornF {m : Dm} {k : Key} (hn : look m.now k = none) (hi : ∀ p ∈ m.now, p.2 < m.fl.length) (f : Fl) : (m.bornF k f).used = m.used + f.data.length := by
  show usedOf (m.fl ++ [f]) (ins m.now k m.fl.length) = usedOf m.fl m.now + _
  rw [usedOf_ins hn, usedOf_more _ hi]
  simp [lenOf]; omega

theorem run_mkD (n : Int) (w : World) : (Instr.makeMap 82 (some (.int .i64 n))).run Try.prog w = .ok (.map (some w.heap.size)) (w.alloc (.map #[] 0)) := by
  simp [Instr.makeMap, run_underlying Try.underlying82, asInt, asIntOf, Result.andThen]

/-- The state of a new disk whose first files are in it. -/
structure NewI (w : World) (d mb room tot : Nat) (fs : List Fj) (W : World) (T : Nat → Nat) (fb : Nat → Nat) (D : DataW (Option Addr)) : Prop where
  pd : Pdu T W d mb fb (newM room fs) (.slice none 0 0) D tot
  low : ∀ b, b < w.heap.size → T b = 0
  below : Below w.heap.size w W
  used : (newM room fs).used = sumF fs

theorem new_first (w w1 : World) (hb : Below w.heap.size w w1) (room tot : Nat) (hr : room ≤ 9223372036854775807) :
    NewI w (w1.heap.size + 1) w1.heap.size room tot [] ((w1.alloc (.map #[] 0)).alloc (.cells #[.int .i64 0, .int .i64 0, .int .i64 0, .int .i64 0, .int .i64 room, .int .i64 tot, .map (some w1.heap.size), .slice none 0 0, .bool false] 85)) (upd (upd (fun _ => 0) w1.heap.size 2) (w1.heap.size + 1) 1) (fun _ => 0) (.map []) := by
  have hs := hb.size
  have hA : Below w1.heap.size w1 ((w1.alloc (.map #[] 0)).alloc (.cells #[.int .i64 0, .int .i64 0, .int .i64 0, .int .i64 0, .int .i64 room, .int .i64 tot, .map (some w1.heap.size), .slice none 0 0, .bool false] 85)) := ((Below.refl _ w1).alloc (Nat.le_refl _) _).alloc (by simp) _
  have hblk : ((w1.alloc (.map #[] 0)).alloc (.cells #[.int .i64 0, .int .i64 0, .int .i64 0, .int .i64 0, .int .i64 room, .int .i64 tot, .map (some w1.heap.size), .slice none 0 0, .bool false] 85)).heap[w1.heap.size + 1]? = some (.cells #[.int .i64 0, .int .i64 0, .int .i64 0, .int .i64 0, .int .i64 room, .int .i64 tot, .map (some w1.heap.size), .slice none 0 0, .bool false] 85) := by
    have := heap_alloc_new (w1.alloc (.map #[] 0)) (.cells #[.int .i64 0, .int .i64 0, .int .i64 0, .int .i64 0, .int .i64 room, .int .i64 tot, .map (some w1.heap.size), .slice none 0 0, .bool false] 85)
    rwa [World.size_alloc] at this
  have hmap : ((w1.alloc (.map #[] 0)).alloc (.cells #[.int .i64 0, .int .i64 0, .int .i64 0, .int .i64 0, .int .i64 room, .int .i64 tot, .map (some w1.heap.size), .slice none 0 0, .bool false] 85)).ownsMap Try.prog 9 ptrR w1.heap.size 0 (.map []) := (World.ownsMap_made w1 Try.prog 9 ptrR).alloc _
  refine ⟨⟨⟨fld_of_block hblk (nine rfl rfl rfl rfl rfl rfl rfl rfl rfl), ⟨Nat.zero_le _, Nat.zero_le _, Nat.zero_le _, Nat.zero_le _⟩⟩, upd_same _ _ _, ?_, ?_, World.ownsRow_nil _ _ _ _, fun b hb => (by cases hb), hmap, ⟨isMap_empty, List.Pairwise.nil, fun k => rfl, fun k => rfl⟩, fun i f hf => (by cases hf), fun p hp => (by cases hp), List.nodup_nil, fun c hc => (by cases hc), hr, Nat.zero_le _, fun c hc => (by cases hc)⟩, ?_, hb.trans (hA.mono hs), rfl⟩
  · rw [upd_other _ _ (by omega), upd_same]
  · intro b hb'
    have : w1.heap.size + 2 ≤ b := by simpa using hb'
    rw [upd_other _ _ (by omega), upd_other _ _ (by omega)]
  · intro b hb'
    rw [upd_other _ _ (by omega), upd_other _ _ (by omega)]

theorem noDup_take {fs : List Fj} {k : Nat} {f : Fj} (h : fs[k]? = some f) (hd : noDup (fs.take k) = true) : (look (newM 0 (fs.take k)).now (ky f.name) = none → noDup (fs.take (k + 1)) = true) ∧ (look (newM 0 (fs.take k)).now (ky f.name) ≠ none → noDup fs = false) := by
  have hl := look_addAll (ky f.name) (fs.take k) [] 0
  have hnow : (newM 0 (fs.take k)).now = addAll [] 0 (fs.take k) := rfl
  rw [hnow]
  constructor
  · intro e
    have e2 := (hl.1 e).2
    simp only [noDup, decide_eq_true_eq] at hd ⊢
    rw [List.take_add_one, h, List.map_append]
    simp only [Option.toList_some, List.map_cons, List.map_nil]
    rw [List.nodup_append]
    refine ⟨hd, by simp, fun a ha b hb => ?_⟩
    simp at hb; subst hb
    intro e3; subst e3; exact e2 ha
  · intro e
    simp only [noDup, decide_eq_false_iff_not]
    intro hn
    apply e
    refine hl.2 ⟨rfl, fun hm => ?_⟩
    obtain ⟨hlt, rfl⟩ := List.getElem?_eq_some_iff.1 h
    have e4 : fs = fs.take k ++ fs[k] :: fs.drop (k + 1) := by rw [← List.drop_eq_getElem_cons hlt, List.take_append_drop]
    rw [e4, List.map_append, List.nodup_append] at hn
    exact hn.2.2 _ hm _ (by rw [List.map_cons]; exact List.mem_cons_self) rfl

theorem heldN {mb V : Nat} {v0 v1 v2 : Value} {W W1 : World} (hb : Below W.heap.size W W1) (h : W.cell? ⟨mb + 1, 6, none⟩ = some (.map (some mb)) ∧ W.cell? ⟨V, 0, none⟩ = some v0 ∧ W.cell? ⟨V, 1, none⟩ = some v1 ∧ W.cell? ⟨V, 2, none⟩ = some v2 ∧ V < W.heap.size ∧ mb + 1 < W.heap.size) : W1.cell? ⟨mb + 1, 6, none⟩ = some (.map (some mb)) ∧ W1.cell? ⟨V, 0, none⟩ = some v0 ∧ W1.cell? ⟨V, 1, none⟩ = some v1 ∧ W1.cell? ⟨V, 2, none⟩ = some v2 ∧ V < W1.heap.size ∧ mb + 1 < W1.heap.size := by
  obtain ⟨c0, c1, c2, c3, z0, z1⟩ := h
  have hs := hb.size
  exact ⟨(hb.cell (p := ⟨mb + 1, 6, none⟩) z1).trans c0, (hb.cell (p := ⟨V, 0, none⟩) z0).trans c1, (hb.cell (p := ⟨V, 1, none⟩) z0).trans c2, (hb.cell (p := ⟨V, 2, none⟩) z0).trans c3, by omega, by omega⟩
theorem heldD {mb V : Nat} {v0 v1 v2 : Value} {W : World} (h : W.cell? ⟨mb + 1, 6, none⟩ = some (.map (some mb)) ∧ W.cell? ⟨V, 0, none⟩ = some v0 ∧ W.cell? ⟨V, 1, none⟩ = some v1 ∧ W.cell? ⟨V, 2, none⟩ = some v2 ∧ V < W.heap.size ∧ mb + 1 < W.heap.size) : W.drew.cell? ⟨mb + 1, 6, none⟩ = some (.map (some mb)) ∧ W.drew.cell? ⟨V, 0, none⟩ = some v0 ∧ W.drew.cell? ⟨V, 1, none⟩ = some v1 ∧ W.drew.cell? ⟨V, 2, none⟩ = some v2 ∧ V < W.drew.heap.size ∧ mb + 1 < W.drew.heap.size := h
theorem heldA {mb V : Nat} {v0 v1 v2 : Value} {W : World} (o : Obj) (h : W.cell? ⟨mb + 1, 6, none⟩ = some (.map (some mb)) ∧ W.cell? ⟨V, 0, none⟩ = some v0 ∧ W.cell? ⟨V, 1, none⟩ = some v1 ∧ W.cell? ⟨V, 2, none⟩ = some v2 ∧ V < W.heap.size ∧ mb + 1 < W.heap.size) : (W.alloc o).cell? ⟨mb + 1, 6, none⟩ = some (.map (some mb)) ∧ (W.alloc o).cell? ⟨V, 0, none⟩ = some v0 ∧ (W.alloc o).cell? ⟨V, 1, none⟩ = some v1 ∧ (W.alloc o).cell? ⟨V, 2, none⟩ = some v2 ∧ V < (W.alloc o).heap.size ∧ mb + 1 < (W.alloc o).heap.size := heldN ((Below.refl _ _).alloc (Nat.le_refl _) _) h
theorem heldG {mb V : Nat} {v0 v1 v2 : Value} {W W1 : World} (hg : W.grownBy W1 (some mb)) (hV : V ≠ mb) (h : W.cell? ⟨mb + 1, 6, none⟩ = some (.map (some mb)) ∧ W.cell? ⟨V, 0, none⟩ = some v0 ∧ W.cell? ⟨V, 1, none⟩ = some v1 ∧ W.cell? ⟨V, 2, none⟩ = some v2 ∧ V < W.heap.size ∧ mb + 1 < W.heap.size) : W1.cell? ⟨mb + 1, 6, none⟩ = some (.map (some mb)) ∧ W1.cell? ⟨V, 0, none⟩ = some v0 ∧ W1.cell? ⟨V, 1, none⟩ = some v1 ∧ W1.cell? ⟨V, 2, none⟩ = some v2 ∧ V < W1.heap.size ∧ mb + 1 < W1.heap.size := by
  obtain ⟨c0, c1, c2, c3, z0, z1⟩ := h
  have hs := hg.size
  have e1 := hg.block (mb + 1) z1 (fun e => by cases e)
  have e2 := hg.block V z0 (fun e => hV (by cases e; rfl))
  exact ⟨(World.cell?_of_block (a := ⟨mb + 1, 6, none⟩) e1).trans c0, (World.cell?_of_block (a := ⟨V, 0, none⟩) e2).trans c1, (World.cell?_of_block (a := ⟨V, 1, none⟩) e2).trans c2, (World.cell?_of_block (a := ⟨V, 2, none⟩) e2).trans c3, by omega, by omega⟩

theorem addAll_len : ∀ (fs : List Fj) (l : List (Key × Nat)) (i : Nat), (addAll l i fs).length ≤ l.length + fs.length
  | [], l, i => by simp [addAll]
  | f :: r, l, i => by
    have h1 := addAll_len r (ins l (ky f.name) i) (i + 1)
    have h2 := putD_len l (ky f.name) (some i)
    simp only [addAll, putD, List.length_cons] at h1 h2 ⊢
    omega
theorem newM_len (R : Nat) (fs : List Fj) (k : Nat) : (newM R (fs.take k)).now.length ≤ k := by
  have := addAll_len (fs.take k) [] 0
  have h2 : (fs.take k).length ≤ k := by rw [List.length_take]; omega
  show (addAll [] 0 (fs.take k)).length ≤ k
  simp only [List.length_nil] at this
  omega
/-- What New answers. -/
def NewAns (w : World) (R : Nat) (fs : List Fj) (e : Ending) (w' : World) : Prop := (okNew R fs = false ∧ e = .returned (.tuple #[.pointer none, .int .i64 36])) ∨ (okNew R fs = true ∧ ∃ d mb T fb, w.heap.size ≤ d ∧ e = .returned (.tuple #[.pointer (some ⟨d, 0, none⟩), .int .i64 0]) ∧ Pd T w' d mb fb (newM R fs) ∧ ∀ b, b < w.heap.size → T b = 0)
set_option maxHeartbeats 1000000 in
theorem new_any (R : Nat) (hr : R ≤ 9223372036854775807) (a : Option Addr) (c : Nat) (fs : List Fj) (ds : List (Option Addr × Nat)) (w : World) (h : FjAt w a fs ds) (hc : fs.length ≤ c) (hc2 : c ≤ 9223372036854775807) (hl : fs.length ≤ 8388608) :
    Calls Try.prog 25 #[.int .i64 R, .slice a fs.length c] w fun e w' => Below w.heap.size w w' ∧ NewAns w R fs e w' := by
  obtain ⟨N, hN⟩ : ∃ N, N = fs.length := ⟨_, rfl⟩
  rw [← hN] at hc ⊢
  have HN : Hid (N = fs.length) := hN
  have HF : Hid (FjAt w a fs ds) := h
  obtain ⟨NI, hNI⟩ : ∃ NI : Int, (N : Int) = NI := ⟨_, rfl⟩
  have HNI : Hid ((N : Int) = NI) := hNI
  have h0 : (0 : Int) ≤ (R : Int) := by omega
  have h8 : (N : Int) ≤ 8388608 := by omega
  have hmm := run_mkD
  have HL8 : Hid (fs.length ≤ 8388608) := hl
  clear hN h hNI hl
  by_cases h3 : fs.all okF = true
  · have hm : measR fs = (sumF fs, true) := by unfold measR; rw [if_pos h3]
    have hsum : sumF fs ≤ 8388608 * 2147483648 := by
      have z := sumF_le (fs := fs) (fun g hg => by
        have := List.all_eq_true.1 h3 g hg
        simp only [okF, Bool.and_eq_true, decide_eq_true_eq] at this
        exact this.1.1.2)
      exact Nat.le_trans z (Nat.mul_le_mul_right _ HL8.out)
    go_enter Try.func25, Try.ntmps25
    go_wp2_with fail
    refine (measure_any a N c fs ds w HF.out HN.out hc hc2 HL8.out).mono ?_
    rintro e w1 ⟨rfl, hb1⟩
    rw [hm]
    have H1 : Hid (Below w.heap.size w w1) := hb1
    have hs1 := hb1.size
    have H3 : Hid (fs.all okF = true) := h3
    clear hb1 hm h3
    by_cases h4 : R ≠ 0 ∧ R < sumF fs
    · obtain ⟨h4a, h4b⟩ := h4
      have q1 : ((R : Int) != 0) = true := by simp; omega
      have q2 : (R : Int) < (sumF fs : Int) := by omega
      have HE : Hid (okNew R fs = false) := by
        show _ = _
        have : (decide ((R : Int) = 0) || decide ((sumF fs : Int) ≤ R)) = false := by simp; omega
        unfold okNew; rw [this]; simp
      go_wp2
      go_ret2
      exact ⟨H1.out, Or.inl ⟨HE.out, rfl⟩⟩
    · have HOK : Hid (okNew R fs = noDup fs) := by
        show _ = _
        have : (decide ((R : Int) = 0) || decide ((sumF fs : Int) ≤ R)) = true := by simp; omega
        simp only [okNew, this, H3.out]
        have z1 : decide ((0 : Int) ≤ (R : Int)) = true := by simp
        have z2 : decide (fs.length ≤ 8388608) = true := by simpa using HL8.out
        rw [z1, z2]; simp
      have hcase : ((R : Int) != 0) = false ∨ (((R : Int) != 0) = true ∧ (sumF fs : Int) ≤ (R : Int)) := by
        by_cases z : R = 0
        · left; simp [z]
        · right; exact ⟨by simp; omega, by omega⟩
      obtain ⟨tot, htot⟩ : ∃ tot, tot = sumF fs := ⟨_, rfl⟩
      have HTOT : Hid (tot = sumF fs) := htot
      rw [← htot] at hcase ⊢
      clear h4 hsum htot
      rcases hcase with q1 | ⟨q1, q2⟩
      all_goals
        go_wp2
        try clear q2
        clear q1
        try generalize decide (R < tot) = bb
        try generalize decide ((R : Int) < 0) = b0
        try generalize decide ((8388608 : Int) < (N : Int)) = b8
        have HI0 : Hid (NewI w (w1.heap.size + 1) w1.heap.size R tot [] ((w1.alloc (.map #[] 0)).alloc (.cells #[.int .i64 0, .int .i64 0, .int .i64 0, .int .i64 0, .int .i64 R, .int .i64 tot, .map (some w1.heap.size), .slice none 0 0, .bool false] 85)) (upd (upd (fun _ => 0) w1.heap.size 2) (w1.heap.size + 1) 1) (fun _ => 0) (.map [])) := new_first w w1 H1.out R tot hr
        generalize (w1.alloc (.map #[] 0)).alloc (.cells #[.int .i64 0, .int .i64 0, .int .i64 0, .int .i64 0, .int .i64 R, .int .i64 tot, .map (some w1.heap.size), .slice none 0 0, .bool false] 85) = W0 at *
        generalize hmb : w1.heap.size = mb at *
        have hd1 : w.heap.size ≤ mb := by omega
        clear hmb
        go_loopw [10, 43, 44, 45, 46, 47, 48, 49, 50, 51, 52, 53, 54, 55, 56, 57, 58, 59, 60, 61, 62, 63, 64, 65, 66, 67, 68] (fun _ i _ _ _ _ _ _ _ _ _ _ _ _ _ _ _ _ _ _ _ _ _ _ _ _ _ wr => ∃ (k : Nat) (T : Nat → Nat) (fb : Nat → Nat) (D : DataW (Option Addr)), k ≤ N ∧ i = .int .i64 k ∧ NewI w (mb + 1) mb R tot (fs.take k) wr T fb D ∧ noDup (fs.take k) = true) (fun _ i _ _ _ _ _ _ _ _ _ _ _ _ _ _ _ _ _ _ _ _ _ _ _ _ _ _ => N - (intOf i).toNat)
        case atStart => exact ⟨0, _, _, _, Nat.zero_le _, rfl, HI0.out, by simp [noDup]⟩
        case round =>
          rename World => W
          obtain ⟨k, T, fb, D, hk, rfl, hni, hnd⟩ := hrel
          by_cases hlt : k < N
          · have hlt' : (k : Int) < (N : Int) := by omega
            have hks : k < fs.length := by have := HN.out; omega
            obtain ⟨f, hf⟩ : ∃ f, fs[k]? = some f := ⟨_, List.getElem?_eq_getElem hks⟩
            obtain ⟨x, hx⟩ : ∃ x, ds[k]? = some x := ⟨_, List.getElem?_eq_getElem (by rw [HF.out.len]; exact hks)⟩
            obtain ⟨⟨b, off, rfl, c0, c1, c2⟩, hib, hnil, hle, hcx, hnm, hs1', hs2'⟩ := (HF.out.below hni.below).at_ k f x hf hx
            have hofk : okF f = true := List.all_eq_true.1 H3.out f (List.mem_of_getElem? hf)
            simp only [okF, Bool.and_eq_true, decide_eq_true_eq] at hofk
            obtain ⟨⟨⟨o1, o2⟩, o3⟩, o4⟩ := hofk
            obtain ⟨SU, hSU⟩ : ∃ SU : Nat, f.sure = (SU : Int) := ⟨f.sure.toNat, by omega⟩
            obtain ⟨nd1, nd2⟩ := noDup_take hf hnd
            have htk : fs.take (k + 1) = fs.take k ++ [f] := by rw [List.take_add_one, hf]; rfl
            have hbA : Below W.heap.size W (W.alloc (.cells #[.string f.name, .slice x.1 f.data.length x.2, .int .i64 SU] 67)) := (Below.refl _ _).alloc (Nat.le_refl _) _
            have hpd := hni.pd.below hbA
            have c6 := (hni.pd.top.1.2 6 (by omega)).1
            simp only [Top.cell] at c6
            have hdlt : mb + 1 < W.heap.size := hni.pd.top.1.1
            rw [hSU] at c2
            have v0 : (W.alloc (.cells #[.string f.name, .slice x.1 f.data.length x.2, .int .i64 SU] 67)).cell? ⟨W.heap.size, 0, none⟩ = some (.string f.name) := by rw [World.cell?_alloc_at _ _ _ _ rfl]; rfl
            have v1 : (W.alloc (.cells #[.string f.name, .slice x.1 f.data.length x.2, .int .i64 SU] 67)).cell? ⟨W.heap.size, 1, none⟩ = some (.slice x.1 f.data.length x.2) := by rw [World.cell?_alloc_at _ _ _ _ rfl]; rfl
            have v2 : (W.alloc (.cells #[.string f.name, .slice x.1 f.data.length x.2, .int .i64 SU] 67)).cell? ⟨W.heap.size, 2, none⟩ = some (.int .i64 SU) := by rw [World.cell?_alloc_at _ _ _ _ rfl]; rfl
            have c6A := (hpd.top.1.2 6 (by omega)).1
            simp only [Top.cell] at c6A
            have hvlt : W.heap.size < (W.alloc (.cells #[.string f.name, .slice x.1 f.data.length x.2, .int .i64 SU] 67)).heap.size := by simp
            have hbw2 : Below w.heap.size w (W.alloc (.cells #[.string f.name, .slice x.1 f.data.length x.2, .int .i64 SU] 67)) := hni.below.trans (hbA.mono hni.below.size)
            have hibA := hib.below hbA
            have HNM : Hid (f.name.size ≤ maxLen) := hnm
            have HIB : Hid (IsB (W.alloc (.cells #[.string f.name, .slice x.1 f.data.length x.2, .int .i64 SU] 67)) x.1 f.data ∧ (x.1 = none → x.2 = 0)) := ⟨hibA, hnil⟩
            have HPD : Hid (Pdu T (W.alloc (.cells #[.string f.name, .slice x.1 f.data.length x.2, .int .i64 SU] 67)) (mb + 1) mb fb (newM R (fs.take k)) (.slice none 0 0) D tot) := hpd
            have HNI2 : Hid (NewI w (mb + 1) mb R tot (fs.take k) W T fb D) := hni
            have HBW : Hid (Below w.heap.size w (W.alloc (.cells #[.string f.name, .slice x.1 f.data.length x.2, .int .i64 SU] 67))) := hbw2
            have HND1 : Hid (look (newM 0 (fs.take k)).now (ky f.name) = none → noDup (fs.take (k + 1)) = true) := nd1
            have HND2 : Hid (look (newM 0 (fs.take k)).now (ky f.name) ≠ none → noDup fs = false) := nd2
            have HTK : Hid (fs.take (k + 1) = fs.take k ++ [f]) := htk
            have HSU : Hid (f.sure = (SU : Int)) := hSU
            have HKL : Hid ((newM R (fs.take k)).now.length ≤ k ∧ k < 8388608) := ⟨newM_len R fs k, by have := HN.out; have := HL8.out; omega⟩
            have hlk : (Instr.lookup 82 (.map (some mb)) (.string f.name) false).run Try.prog (W.alloc (.cells #[.string f.name, .slice x.1 f.data.length x.2, .int .i64 SU] 67)).drew = .ok (pv fb (look (newM R (fs.take k)).now (ky f.name))) (W.alloc (.cells #[.string f.name, .slice x.1 f.data.length x.2, .int .i64 SU] 67)).drew := look_run (w := (W.alloc (.cells #[.string f.name, .slice x.1 f.data.length x.2, .int .i64 SU] 67)).drew) (m := newM R (fs.take k)) hpd.map hpd.dir f.name hnm
            clear hib hnil hnm hpd hni hnd nd1 nd2 htk hbw2 hibA hbA hSU hs1' hs2' o1 hx hf c6
            cases hlook : look (newM R (fs.take k)).now (ky f.name) with
            | some i =>
              rw [hlook] at hlk
              simp only [pv] at hlk
              go_wp2
              generalize W.alloc (.cells #[.string f.name, .slice x.1 f.data.length x.2, .int .i64 SU] 67) = WA at *
              go_region
              go_wp2
              go_ret2
              refine ⟨HBW.out.drew, Or.inl ⟨?_, rfl⟩⟩
              rw [HOK.out]
              exact HND2.out (by show look (newM R (fs.take k)).now (ky f.name) ≠ none; rw [hlook]; simp)
            | none =>
              rw [hlook] at hlk
              simp only [pv] at hlk
              go_wp2
              generalize W.alloc (.cells #[.string f.name, .slice x.1 f.data.length x.2, .int .i64 SU] 67) = WA at *
              have hVm : W.heap.size ≠ mb := by omega
              generalize W.heap.size = V at *
              go_region
              clear hlk
              have HPB : Hid (Pdu T WA.drew (mb + 1) mb fb (newM R (fs.take k)) (.slice none 0 0) D tot) := HPD.out.below ((Below.refl _ _).drew)
              have HIB2 : Hid (IsB WA.drew x.1 f.data) := HIB.out.1.below ((Below.refl _ _).drew)
              have HBW2 : Hid (Below w.heap.size w WA.drew) := HBW.out.drew
              have v0' : WA.drew.cell? ⟨V, 0, none⟩ = some (.string f.name) := v0
              have v1' : WA.drew.cell? ⟨V, 1, none⟩ = some (.slice x.1 f.data.length x.2) := v1
              have v2' : WA.drew.cell? ⟨V, 2, none⟩ = some (.int .i64 SU) := v2
              have c6B : WA.drew.cell? ⟨mb + 1, 6, none⟩ = some (.map (some mb)) := c6A
              have hvl2 : V < WA.drew.heap.size := hvlt
              clear v0 v1 v2 c6A hvlt HPD HBW
              generalize WA.drew = WB at *
              have hdB : mb + 1 < WB.heap.size := HPB.out.top.1.1
              have hob : f.data.length ≤ 140737488355328 := by omega
              go_wp2
              have HS0 : Hid (WB.cell? ⟨mb + 1, 6, none⟩ = some (.map (some mb)) ∧ WB.cell? ⟨V, 0, none⟩ = some (.string f.name) ∧ WB.cell? ⟨V, 1, none⟩ = some (.slice x.1 f.data.length x.2) ∧ WB.cell? ⟨V, 2, none⟩ = some (.int .i64 SU) ∧ V < WB.heap.size ∧ mb + 1 < WB.heap.size) := ⟨c6B, v0', v1', v2', hvl2, hdB⟩
              go_region_held3 (fun w' => w'.cell? ⟨mb + 1, 6, none⟩ = some (.map (some mb)) ∧ w'.cell? ⟨V, 0, none⟩ = some (.string f.name) ∧ w'.cell? ⟨V, 1, none⟩ = some (.slice x.1 f.data.length x.2) ∧ w'.cell? ⟨V, 2, none⟩ = some (.int .i64 SU) ∧ V < w'.heap.size ∧ mb + 1 < w'.heap.size) (first | exact heldD HS0.out | exact heldN (by assumption) (by assumption) | exact heldG HG2.out hVm (by assumption) | exact heldA _ (by assumption))
                (first
                  | (go_at_call 50; refine (clone_any x.1 f.data.length x.2 f.data WB.drew HIB2.out HIB.out.2 rfl hob).mono ?_; rintro e W1 ⟨a1, c1, rfl, hn1, hb1⟩; have HC : Hid (New 5 WB.heap.size W1 a1 c1 f.data ∧ Below WB.heap.size WB W1) := ⟨hn1, ((Below.refl WB.heap.size WB).drew).trans hb1⟩; obtain ⟨w2, hrun, ho2, hg2⟩ := ((HPB.out.below HC.out.2).map.alloc (.cells #[.slice a1 f.data.length c1, .int .i64 SU] 90)).update keyed Try.underlying82 (key := .string f.name) (val := .pointer (some ⟨W1.heap.size, 0, none⟩)) (by have := HPB.out.most; unfold maxLen; omega) (keyOf_s f.name HNM.out) (show ptrR (.pointer (some ⟨W1.heap.size, 0, none⟩)) = some (.held (some ⟨W1.heap.size, 0, none⟩), []) from rfl); have HO2 : Hid (w2.ownsMap Try.prog 9 ptrR mb ((newM R (fs.take k)).now.length + 1) (D.put (.string (ky f.name)) (.held (some ⟨W1.heap.size, 0, none⟩)))) := ho2; have HG2 : Hid ((W1.alloc (.cells #[.slice a1 f.data.length c1, .int .i64 SU] 90)).grownBy w2 (some mb)) := hg2; clear hn1 ho2 hg2))
              all_goals
                have hlow := HNI2.out.low
                obtain ⟨T', p1, p2⟩ := HPB.out.bornF (k := ky f.name) (f := ⟨f.data, SU⟩) hlook (by have z := HKL.out; exact Nat.lt_of_le_of_lt z.1 z.2) HC.out.2 HC.out.1 (by have := HSU.out; simp only; omega) o2 HO2.out HG2.out
                have hWBs := HBW2.out.size
                have hfin : NewI w (mb + 1) mb R tot (fs.take (k + 1)) w2 T' (upd fb (newM R (fs.take k)).fl.length W1.heap.size) (D.put (.string (ky f.name)) (.held (some ⟨W1.heap.size, 0, none⟩))) := by
                  rw [HTK.out]
                  have esu : f.sure.toNat = SU := by have := HSU.out; omega
                  refine ⟨?_, fun b hb => (p2.block b (by omega) (hlow b hb)).2, HBW2.out.trans ⟨p2.os, p2.tape, p2.output, p2.size, fun b hb => (p2.block b (by omega) (hlow b hb)).1⟩, ?_⟩
                  · rw [newM_snoc, esu]; exact p1
                  · rw [newM_snoc, used_bornF hlook HPB.out.ids, HNI2.out.used]
                    simp [sumF]
                have HFIN : Hid (NewI w (mb + 1) mb R tot (fs.take (k + 1)) w2 T' (upd fb (newM R (fs.take k)).fl.length W1.heap.size) (D.put (.string (ky f.name)) (.held (some ⟨W1.heap.size, 0, none⟩)))) := hfin
                clear p1 p2 hfin hlow
                go_wp2
                go_roundw
                case rel => exact ⟨k + 1, _, _, _, hlt, by go_num, HFIN.out, HND1.out hlook⟩
                case measure => simp [intOf]; omega
          · have hk' : k = N := by omega
            subst hk'
            have e1 : fs.take k = fs := List.take_of_length_le (by have := HN.out; omega)
            rw [e1] at hni hnd
            go_wp2
            go_ret2
            refine ⟨hni.below, Or.inr ⟨by rw [HOK.out]; exact hnd, mb + 1, mb, T, fb, by omega, rfl, ⟨.slice none 0 0, D, ?_⟩, hni.low⟩⟩
            show Pdu _ _ _ _ _ _ _ _ (newM R fs).used
            rw [hni.used, ← HTOT.out]
            exact hni.pd
  · have hm : measR fs = (0, false) := by unfold measR; rw [if_neg h3]
    have HE : Hid (okNew R fs = false) := by
      show _ = _
      have : fs.all okF = false := by simpa using h3
      simp [okNew, this]
    go_enter Try.func25, Try.ntmps25
    go_wp2_with fail
    refine (measure_any a N c fs ds w HF.out HN.out hc hc2 HL8.out).mono ?_
    rintro e w1 ⟨rfl, hb1⟩
    rw [hm]
    clear h3 hm
    go_wp2
    go_ret2
    exact ⟨hb1, Or.inl ⟨HE.out, rfl⟩⟩
end Dsk
end Go.Proofs.Ytbloifnibgdeoaa
