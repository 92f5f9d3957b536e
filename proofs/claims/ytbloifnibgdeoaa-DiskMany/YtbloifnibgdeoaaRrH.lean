import Derived.Test.YtbloifnibgdeoaaRrC
import Derived.Test.YtbloifnibgdeoaaRNx
import Derived.Test.YtbloifnibgdeoaaDRea
import Derived.Deep.CutBlock
import Derived.Deep.DeepCutAuto
import Derived.Test.YtbloifnibgdeoaaRFil
import Derived.Test.YtbloifnibgdeoaaDImg
import Derived.BigQuiet
import Derived.Test.YtbloifnibgdeoaaProg
import Derived.Test.YtbloifnibgdeoaaDDel
import Derived.WalkKit
import Derived.WalkSpells
import Derived.WalkLawsBesides
import Derived.Deep.RegionLaw
import Derived.Deep.DrawnRows
import Derived.Maps.Range
import Derived.Test.YtbloifnibgdeoaaDNew
import Derived.Deep.CutRange
import Derived.Test.YtbloifnibgdeoaaDSml
import Derived.Test.YtbloifnibgdeoaaDApp
import Derived.Test.YtbloifnibgdeoaaDSyn
namespace Go.Proofs.Ytbloifnibgdeoaa
namespace Dsk
open Go.RowKit Go.Shelf Go.Maps Go.Sort Byt Laws
set_option linter.unusedVariables false
set_option maxRecDepth 100000
set_option linter.unusedSimpArgs false

/-- P3.5: Read. -/
def Rm.read (m : Rm) (s : ByteArray) : List Nat × Int :=
  if m.down then ([], 30) else if okN s then (match look m.now (ky s) with
    | none => ([], 34)
    | some i => (((m.fl[i]?).map (·.data)).getD [], 0)) else ([], 33)
set_option maxHeartbeats 1000000 in
theorem rread_any {T : Nat → Nat} {w : World} {d : Nat} {m : Rm} (h : Re T w d m) (s : ByteArray) (hs : s.size ≤ maxLen) :
    Calls Try.prog 45 #[.pointer (some ⟨d, 0, none⟩), .string s] w fun e w' => ∃ a' c', e = .returned (.tuple #[.slice a' (m.read s).1.length c', .int .i64 (m.read s).2]) ∧ New 5 w.heap.size w' a' c' (m.read s).1 ∧ Below w.heap.size w w' := by
  obtain ⟨fb, vf, vn, vs, vc, h⟩ := h
  have HH : Hid (Rd T w d fb m vf vn vs vc) := h
  have c9 := (h.top.2 9 (by omega)).1
  simp only [rcell] at c9
  have hs9 : s.size ≤ 9223372036854775807 := by unfold maxLen at hs; omega
  have HN0 : Hid (∀ W, New 5 w.heap.size W none 0 []) := fun W => ⟨World.ownsRow_nil _ _ _ _, by simp⟩
  obtain ⟨i8, hi8, y0, y1, y2⟩ := info_parts infoB
  clear h
  cases hd : m.down with
  | true =>
    rw [hd] at c9
    have e : m.read s = ([], 30) := by simp [Rm.read, hd]
    rw [e]
    go_enter Try.func45, Try.ntmps45
    go_wp2
    go_ret2
    exact ⟨none, 0, rfl, HN0.out _, Below.refl _ _⟩
  | false =>
    rw [hd] at c9
    cases hok : okN s with
    | false =>
      have e : m.read s = ([], 33) := by simp [Rm.read, hd, hok]
      rw [e]
      go_enter Try.func45, Try.ntmps45
      go_wp2_with (go_at_call 62; refine (ref_right s _ hs9).mono ?_; rintro e w5 ⟨rfl, hw5⟩; have hw6 := hw5.symm; clear hw5; subst hw6; rw [hok])
      go_ret2
      exact ⟨none, 0, rfl, HN0.out _, Below.refl _ _⟩
    | true =>
      cases hl : look m.now (ky s) with
      | none =>
        have e : m.read s = ([], 34) := by simp [Rm.read, hd, hok, hl]
        rw [e]
        go_enter Try.func45, Try.ntmps45
        go_wp2_with (first
          | (go_at_call 62; refine (ref_right s _ hs9).mono ?_; rintro e w5 ⟨rfl, hw5⟩; have hw6 := hw5.symm; clear hw5; subst hw6; rw [hok])
          | (go_at_call 64; refine (rat_any HH.out s).mono ?_; rintro e w1 ⟨rfl, b1⟩; rw [show pv fb (look m.now s.data.toList) = .pointer none from by rw [show look m.now s.data.toList = none from hl]; rfl]; have B1 : Hid (Below w.heap.size w w1) := b1; clear b1))
        go_ret2
        exact ⟨none, 0, rfl, HN0.out _, B1.out⟩
      | some i =>
        obtain ⟨f, hfl⟩ : ∃ f, m.fl[i]? = some f := ⟨_, List.getElem?_eq_getElem (HH.out.ids _ (look_some hl))⟩
        have e : m.read s = (f.data, 0) := by simp [Rm.read, hd, hok, hl, hfl]
        rw [e]
        have HFL : Hid (m.fl[i]? = some f) := hfl
        clear hfl
        go_enter Try.func45, Try.ntmps45
        go_upto_region 8 with (first
          | (go_at_call 62; refine (ref_right s _ hs9).mono ?_; rintro e w5 ⟨rfl, hw5⟩; have hw6 := hw5.symm; clear hw5; subst hw6; rw [hok])
          | (go_at_call 64; refine (rat_any HH.out s).mono ?_; rintro e w1 ⟨rfl, b1⟩; rw [show pv fb (look m.now s.data.toList) = .pointer (some ⟨fb i, 0, none⟩) from by rw [show look m.now s.data.toList = some i from hl]; rfl]; have B1 : Hid (Below w.heap.size w w1) := b1; clear b1))
        obtain ⟨a, c, hfa⟩ := (HH.out.below B1.out).file i f HFL.out
        have cf0 := (hfa.fld.2 0 (by omega)).1
        simp only [fcell, if_true] at cf0
        have HFA2 : Hid (FileAt T w1 (fb i) i f a c) := hfa
        clear hfa
        go_wp2_with (at_builtin; refine wpList_appB (by rfl) (.const (.slice none 0 0)) (.tmp 22) 30 (by rfl) w1.heap.size 5 i8 Try.underlying30 hi8 y0 y1 y2 (.slice none 0 0) [] 0 (by rfl) (World.ownsRow_nil _ _ _ _) a f.data.length c f.data (by rfl) rfl HFA2.out.own.cap HFA2.out.own.isB (by have := HFA2.out.big; omega) (Nat.le_refl _) ?_; intro v2 w2 hr2 hg2 _; obtain ⟨a2, c2, rfl, hn2⟩ := New.of hr2 (by simpa using HFA2.out.own.byte); have H2 : Hid (New 5 w1.heap.size w2 a2 c2 ([] ++ f.data) ∧ Below w1.heap.size w1 w2) := ⟨hn2, below_of (Below.refl _ _) hg2 (Nat.le_refl _) (fun j hj => by cases hj)⟩; clear hr2 hg2 hn2)
        go_ret2
        have z := H2.out.1
        rw [List.nil_append] at z
        exact ⟨a2, c2, rfl, z.lower B1.out.size, B1.out.trans (H2.out.2.mono B1.out.size)⟩

/-- A change, done. -/
def fwd (l : List (Key × Nat)) (c : Rc) : List (Key × Nat) :=
  if c.kind = 1 then ins l (ky c.name) c.at_
  else if c.kind = 2 then (match look l (ky c.name) with
    | some i => ins (del l (ky c.name)) (ky c.other) i
    | none => l)
  else if c.kind = 3 then del l (ky c.name)
  else l
def Rm.dk (m : Rm) (k : Nat) : List (Key × Nat) := (m.ch.take k).foldl fwd m.su
theorem dk_next {m : Rm} {k : Nat} {c : Rc} (h : m.ch[k]? = some c) : m.dk (k + 1) = fwd (m.dk k) c := by
  unfold Rm.dk
  rw [List.take_add_one, h]
  simp
theorem rises_fwd {l : List (Key × Nat)} (h : Rises l) (c : Rc) : Rises (fwd l c) := by
  unfold fwd
  split
  · exact rises_ins h _ _
  · split
    · split
      · exact rises_ins (rises_del h _) _ _
      · exact h
    · split
      · exact rises_del h _
      · exact h
theorem len_fwd (l : List (Key × Nat)) (c : Rc) : (fwd l c).length ≤ l.length + 1 := by
  unfold fwd
  split
  · exact len_ins_le _ _ _
  · split
    · split
      · have z1 := len_ins_le (del l (ky c.name)) (ky c.other) (by assumption)
        have z2 := len_del l (ky c.name)
        omega
      · omega
    · split
      · have z2 := len_del l (ky c.name)
        omega
      · omega
theorem dk_facts {m : Rm} (h : Rises m.su) : ∀ k, Rises (m.dk k) ∧ (m.dk k).length ≤ m.su.length + k
  | 0 => ⟨h, by show m.su.length ≤ _; omega⟩
  | k + 1 => by
    obtain ⟨h1, h2⟩ := dk_facts h k
    cases hc : m.ch[k]? with
    | none =>
      have e : m.dk (k + 1) = m.dk k := by unfold Rm.dk; rw [List.take_add_one, hc]; simp
      rw [e]; exact ⟨h1, by omega⟩
    | some c =>
      rw [dk_next hc]
      exact ⟨rises_fwd h1 c, by have := len_fwd (m.dk k) c; omega⟩
theorem rcRow_get : ∀ {l : List Rc} {k : Nat} {c : Rc}, l[k]? = some c → ∀ t, t < 4 → (rcRow l)[k * 4 + t]? = ([.int .i64 c.kind, .string c.name, .string c.other, .int .i64 c.at_] : List Value)[t]?
  | [], k, c, h, _, _ => by simp at h
  | x :: r, 0, c, h, t, ht => by
    simp at h; subst h
    match t, ht with
    | 0, _ => rfl
    | 1, _ => rfl
    | 2, _ => rfl
    | 3, _ => rfl
  | x :: r, k + 1, c, h, t, ht => by
    simp at h
    have e : (k + 1) * 4 + t = (k * 4 + t) + 4 := by omega
    rw [e, ← rcRow_get h t ht]
    rfl
theorem chg_at {w : World} {base n c : Nat} {a : Option Addr} {l : List Rc} (h : w.ownsRow base 119 4 (.slice a n c) n (rcRow l)) (hn : n = l.length) {k : Nat} {x : Rc} (hx : l[k]? = some x) :
    ∃ g, a = some ⟨g, 0, none⟩ ∧ k < n ∧ n ≤ c ∧ c ≤ 9223372036854775807 ∧ ∀ t, t < 4 → w.cell? ⟨g, k * 4 + t, none⟩ = ([.int .i64 x.kind, .string x.name, .string x.other, .int .i64 x.at_] : List Value)[t]? := by
  have hk : k < n := by rw [hn]; exact (List.getElem?_eq_some_iff.1 hx).1
  rcases h.2 with ⟨e, e0⟩ | ⟨g, cap, cur, e, h1, h2, h3, h4, h5, h6⟩
  · omega
  · cases e
    refine ⟨g, rfl, hk, h3, h4, fun t ht => ?_⟩
    rw [Go.Joins.cell_of_block h2, ← rcRow_get hx t ht, ← h6, List.getElem?_take, if_pos (by omega)]
    simp
/-- What the loop of rest has. -/
structure St (w : World) (m : Rm) (k : Nat) (v : Value) (wr : World) : Prop where
  own : wr.ownsRow w.heap.size 98 2 v (m.dk k).length (enRow (m.dk k))
  below : Below w.heap.size w wr
theorem St.step {w wr w' : World} {m : Rm} {k : Nat} {v v' : Value} {W : World} (h : St w m k v wr) (hb : Below wr.heap.size wr W) (hk : Keep v.ownBlock.toList W w') (ho : w'.ownsRow w.heap.size 98 2 v' (m.dk (k + 1)).length (enRow (m.dk (k + 1)))) : St w m (k + 1) v' w' :=
  ⟨ho, below_keep (h.below.trans (hb.mono h.below.size)) hk (fun b hb => (h.own.lt b (by simpa using hb)).1)⟩
end Dsk
end Go.Proofs.Ytbloifnibgdeoaa
namespace Go.Proofs.Ytbloifnibgdeoaa
namespace Dsk
open Go.RowKit Go.Shelf Go.Maps Go.Sort Byt Laws
set_option linter.unusedVariables false
set_option maxRecDepth 100000
set_option linter.unusedSimpArgs false

def Rm.rest (m : Rm) (dir : Int) : List (Key × Nat) := m.dk (keptN dir m.ch.length)
set_option maxHeartbeats 2000000 in
theorem rrest_any {T : Nat → Nat} {w : World} {d : Nat} {fb : Nat → Nat} {m : Rm} {vf vn vs vc : Value} (h : Rd T w d fb m vf vn vs vc) (hch : m.ch.length ≤ 900000) (hk : ∀ c ∈ m.ch, c.kind = 1 ∨ c.kind = 2 ∨ c.kind = 3) (dir : Int) (hdir : dir ≤ 9223372036854775807) :
    Calls Try.prog 56 #[.pointer (some ⟨d, 0, none⟩), .int .i64 dir] w fun e w' => ∃ v', e = .returned v' ∧ w'.ownsRow w.heap.size 98 2 v' (m.rest dir).length (enRow (m.rest dir)) ∧ Below w.heap.size w w' := by
  obtain ⟨ac, cc, rfl⟩ := own_slice h.chg
  have HT : Hid (Calls Try.prog 58 #[vs] w fun e w' => ∃ v', e = .returned v' ∧ w'.ownsRow w.heap.size 98 2 v' m.su.length (enRow m.su) ∧ Below w.heap.size w w') := (rtwin_any 0 vs m.su.length m.su w h.sur (by have := h.mostS; omega))
  have t3 := (h.top.2 3 (by omega)).1
  simp only [rcell] at t3
  have HH : Hid (Rd T w d fb m vf vn vs (.slice ac m.ch.length cc)) := h
  have HK : Hid (∀ c ∈ m.ch, c.kind = 1 ∨ c.kind = 2 ∨ c.kind = 3) := hk
  have HF : Hid (∀ k, Rises (m.dk k) ∧ (m.dk k).length ≤ m.su.length + k) := dk_facts h.risesS
  have HMS : Hid (m.su.length ≤ 9000000) := h.mostS
  obtain ⟨as1, cs1, rfl⟩ := own_slice h.sur
  obtain ⟨CL, hCL⟩ : ∃ CL, m.ch.length = CL := ⟨_, rfl⟩
  have HCL : Hid (m.ch.length = CL) := hCL
  rw [hCL] at HH hch
  unfold Rm.rest
  rw [hCL]
  clear h hk hCL
  go_enter Try.func56, Try.ntmps56
  go_wp2_with (go_at_call 58; refine HT.out.mono ?_; rintro e w1 ⟨v1, rfl, h1, h2⟩; have HS0 : Hid (St w m 0 v1 w1) := ⟨h1, h2⟩; clear h1 h2)
  go_loopw [5, 6] (fun lv iv wr => ∃ k : Nat, k ≤ CL ∧ iv = .int .i64 (k : Int) ∧ (k : Int) ≤ (keptN dir CL : Int) ∧ Hid (St w m k lv wr)) (fun _ iv _ => CL - (intOf iv).toNat)
  case atStart => exact ⟨0, Nat.zero_le _, rfl, by omega, HS0.out⟩
  case round =>
    obtain ⟨k, hkl, rfl, hkd, HS⟩ := hrel
    clear HS0
    rename World => X
    have v4 : X.cell? ⟨d, 4, none⟩ = some (.slice ac CL cc) := ((HH.out.below HS.out.below).top.2 4 (by omega)).1
    by_cases hlt : k < CL
    · have hlt' : (k : Int) < (CL : Int) := by omega
      have g0 : decide ((k : Int) < (CL : Int)) = true := by simp; omega
      by_cases hkd2 : (k : Int) < dir
      · have hkp : ((k + 1 : Nat) : Int) ≤ (keptN dir CL : Int) := by unfold keptN; omega
        obtain ⟨c, hc⟩ : ∃ c, m.ch[k]? = some c := ⟨_, List.getElem?_eq_getElem (by rw [HCL.out]; exact hlt)⟩
        have hchg := (HH.out.below HS.out.below).chg
        rw [HCL.out] at hchg
        obtain ⟨g, hac, _, x2, x3, hcell⟩ := chg_at hchg HCL.out.symm hc
        subst hac
        have e0 : X.cell? ⟨g, k * 4, none⟩ = some (.int .i64 (c.kind : Nat)) := hcell 0 (by omega)
        have e1 : X.cell? ⟨g, k * 4 + 1, none⟩ = some (.string c.name) := hcell 1 (by omega)
        have e2 : X.cell? ⟨g, k * 4 + 2, none⟩ = some (.string c.other) := hcell 2 (by omega)
        have e3 : X.cell? ⟨g, k * 4 + 3, none⟩ = some (.int .i64 (c.at_ : Nat)) := hcell 3 (by omega)
        have HDK : Hid (m.dk (k + 1) = fwd (m.dk k) c) := dk_next hc
        have HKC : Hid (c.kind = 1 ∨ c.kind = 2 ∨ c.kind = 3) := HK.out c (List.mem_of_getElem? hc)
        have hxl := (HF.out k).2
        have hxm := HMS.out
        obtain ⟨av, cv, rfl⟩ := own_slice HS.out.own
        obtain ⟨DL, hDL⟩ : ∃ DL, (m.dk k).length = DL := ⟨_, rfl⟩
        have HDL : Hid ((m.dk k).length = DL ∧ (DL : Int) ≤ 9900000) := ⟨hDL, by omega⟩
        rw [hDL] at HS ⊢
        have HO0 : Hid (∀ W, Below X.heap.size X W → W.ownsRow w.heap.size 98 2 (.slice av DL cv) DL (enRow (m.dk k)) ∧ w.heap.size ≤ W.heap.size) := fun W hW => by
          have z := (Keep.below (bs := []) hW).own HS.out.own (by simp)
          rw [HDL.out.1] at z
          exact ⟨z, Nat.le_trans HS.out.below.size hW.size⟩
        clear hcell hchg hc hDL hxl hxm
        rcases HKC.out with hk1 | hk1 | hk1
        · rw [hk1] at e0
          have HD1 : Hid (m.dk (k + 1) = ins (m.dk k) (ky c.name) c.at_) := by show _ = _; rw [HDK.out]; simp [fwd, hk1]
          go_wp2_with (go_at_call 66; refine (with_any w.heap.size (.slice av DL cv) DL (m.dk k) _ (HO0.out _ ((Below.refl X.heap.size X).alloc (Nat.le_refl _) _)).1 (HO0.out _ ((Below.refl X.heap.size X).alloc (Nat.le_refl _) _)).2 (HF.out k).1 (by have := HDL.out.2; omega) c.name c.at_).mono ?_; rintro e w2 ⟨v2, rfl, r1, r2, r3⟩; have H2 : Hid (St w m (k + 1) v2 w2) := HS.out.step ((Below.refl X.heap.size X).alloc (Nat.le_refl _) _) r2 (by rw [HD1.out]; exact r1); clear r1 r2 r3)
          go_roundw
          case rel => exact ⟨k + 1, by omega, by go_num, hkp, H2.out⟩
          case measure => simp [intOf]; omega
        · rw [hk1] at e0
          have hrs := (HF.out k).1
          have HFD : Hid (∀ W, Below X.heap.size X W → Calls Try.prog 73 #[.slice av DL cv, .string c.name] W fun e w' => e = .returned (.tuple #[.int .i64 (plc (m.dk k) (ky c.name) : Nat), .bool (look (m.dk k) (ky c.name)).isSome]) ∧ ∃ q, w' = W.drewN q) := fun W hW => by
            have z := (HO0.out W hW).1
            exact find_any av DL cv (m.dk k) W (HF.out k).1 (enR_own z).2.2 HDL.out.1.symm (by have := HDL.out.2; omega) (enR_own z).2.1 c.name
          clear hrs
          cases hl : look (m.dk k) (ky c.name) with
          | none =>
            rw [hl] at HFD
            have HD1 : Hid (m.dk (k + 1) = m.dk k) := by show _ = _; rw [HDK.out]; simp [fwd, hk1, hl]
            go_wp2_with (go_at_call 73; refine (HFD.out _ ((Below.refl X.heap.size X).alloc (Nat.le_refl _) _)).mono ?_; rintro e w2 ⟨rfl, q, hw2⟩; have B2 : Hid (Below X.heap.size X w2) := (by rw [hw2]; exact below_drewN ((Below.refl X.heap.size X).alloc (Nat.le_refl _) _) q); clear hw2)
            have H2 : Hid (St w m (k + 1) (.slice av DL cv) w2) := HS.out.step B2.out (Keep.refl _ _) (by rw [HD1.out, HDL.out.1]; exact (HO0.out _ B2.out).1)
            go_roundw
            case rel => exact ⟨k + 1, by omega, by go_num, hkp, H2.out⟩
            case measure => simp [intOf]; omega
          | some i =>
            rw [hl] at HFD
            have HD1 : Hid (m.dk (k + 1) = ins (del (m.dk k) (ky c.name)) (ky c.other) i) := by show _ = _; rw [HDK.out]; simp [fwd, hk1, hl]
            have HPL : Hid ((m.dk k)[plc (m.dk k) (ky c.name)]? = some (ky c.name, i)) := plc_some (HF.out k).1 hl
            generalize plc (m.dk k) (ky c.name) = pl at *
            go_upto_region 11 with (go_at_call 73; refine (HFD.out _ ((Below.refl X.heap.size X).alloc (Nat.le_refl _) _)).mono ?_; rintro e w2 ⟨rfl, q, hw2⟩; have B2 : Hid (Below X.heap.size X w2) := (by rw [hw2]; exact below_drewN ((Below.refl X.heap.size X).alloc (Nat.le_refl _) _) q); have o1 : w2.cell? ⟨X.heap.size, 1, none⟩ = some (.string c.name) := (by rw [hw2, World.cell?_drewN]; exact (cell_of' (heap_alloc_new X _)).trans rfl); have o2 : w2.cell? ⟨X.heap.size, 2, none⟩ = some (.string c.other) := (by rw [hw2, World.cell?_drewN]; exact (cell_of' (heap_alloc_new X _)).trans rfl); have hob : X.heap.size < w2.heap.size := (by rw [hw2]; simp); clear hw2)
            obtain ⟨hx1, hx2⟩ := HO0.out w2 B2.out
            obtain ⟨ge, ea, x5, x6, x7, _, p3⟩ := en_at hx1 HPL.out
            subst ea
            have hglt : ge < X.heap.size := (HS.out.own.lt ge rfl).2
            have HX1 : Hid (w2.ownsRow w.heap.size 98 2 (.slice (some ⟨ge, 0, none⟩) DL cv) DL (enRow (m.dk k)) ∧ w.heap.size ≤ w2.heap.size) := ⟨hx1, hx2⟩
            have x5' : (pl : Int) < (DL : Int) := by omega
            have HOB : Hid (X.heap.size < w2.heap.size ∧ X.heap.size ∉ (Value.slice (some ⟨ge, 0, none⟩) DL cv).ownBlock.toList) := ⟨hob, by simp [Value.ownBlock]; omega⟩
            obtain ⟨ob, hobe⟩ : ∃ ob, X.heap.size = ob := ⟨_, rfl⟩
            rw [hobe] at o1 o2 HOB ⊢
            clear hobe
            clear hx1 hx2 HFD e0 e1 e2 e3 v4
            go_upto_region 13 with fail
            go_region_law (first
              | ((try go_simp); go_at_call 66; refine (with_any w.heap.size (.slice a4 (del (m.dk k) c.name.data.toList).length c4) (del (m.dk k) c.name.data.toList).length (del (m.dk k) c.name.data.toList) w4 H4.out.1 (Nat.le_trans HX1.out.2 H4.out.2.1.size) (rises_del (HF.out k).1 _) (by have z1 := len_del (m.dk k) c.name.data.toList; have z2 := HDL.out.1; have z3 := HDL.out.2; omega) c.other i).mono ?_; rintro e w6 ⟨v6, rfl, r6, k6, b6⟩; have H6 : Hid (St w m (k + 1) v6 w6) := HS.out.step B2.out (H4.out.2.1.trans (k6.mono (by intro x hx; simp only [Option.mem_toList] at hx ⊢; exact H4.out.2.2 x hx))) (by rw [HD1.out]; exact r6); clear r6 k6 b6)
              | ((try go_simp); go_at_call 75; refine (without_any w.heap.size (.slice (some ⟨ge, 0, none⟩) DL cv) DL (m.dk k) _ ((Keep.below (bs := []) (Below.refl w2.heap.size w2).drew).own HX1.out.1 (by simp)) (HF.out k).1 (by have := HDL.out.2; omega) c.name).mono ?_; rintro e w4 ⟨v4, rfl, r4, k4, b4⟩; obtain ⟨a4, c4, rfl⟩ := own_slice r4; have kk4 : Keep (Value.slice (some ⟨ge, 0, none⟩) DL cv).ownBlock.toList w2 w4 := ((Keep.below (bs := []) (Below.refl w2.heap.size w2).drew).mono (by simp)).trans k4; have H4 : Hid (w4.ownsRow w.heap.size 98 2 (.slice a4 (del (m.dk k) c.name.data.toList).length c4) (del (m.dk k) c.name.data.toList).length (enRow (del (m.dk k) c.name.data.toList)) ∧ Keep (Value.slice (some ⟨ge, 0, none⟩) DL cv).ownBlock.toList w2 w4 ∧ ∀ g, (Value.slice a4 (del (m.dk k) c.name.data.toList).length c4).ownBlock = some g → (Value.slice (some ⟨ge, 0, none⟩) DL cv).ownBlock = some g) := ⟨r4, kk4, b4⟩; have y2 : w4.cell? ⟨ob, 2, none⟩ = some (.string c.other) := (kk4.cell (p := ⟨ob, 2, none⟩) HOB.out.1 HOB.out.2).trans o2; clear r4 k4 b4 kk4))
            all_goals (
              go_wp2
              go_roundw
              case rel => exact ⟨k + 1, by omega, by go_num, hkp, H6.out⟩
              case measure => simp [intOf]; omega)
        · rw [hk1] at e0
          have HD1 : Hid (m.dk (k + 1) = del (m.dk k) (ky c.name)) := by show _ = _; rw [HDK.out]; simp [fwd, hk1]
          go_wp2_with (go_at_call 75; refine (without_any w.heap.size (.slice av DL cv) DL (m.dk k) _ (HO0.out _ ((Below.refl X.heap.size X).alloc (Nat.le_refl _) _)).1 (HF.out k).1 (by have := HDL.out.2; omega) c.name).mono ?_; rintro e w2 ⟨v2, rfl, r1, r2, r3⟩; have H2 : Hid (St w m (k + 1) v2 w2) := HS.out.step ((Below.refl X.heap.size X).alloc (Nat.le_refl _) _) r2 (by rw [HD1.out]; exact r1); clear r1 r2 r3)
          go_roundw
          case rel => exact ⟨k + 1, by omega, by go_num, hkp, H2.out⟩
          case measure => simp [intOf]; omega
      · have g1 : decide ((k : Int) < dir) = false := by simp; omega
        have hkk : k = keptN dir CL := by unfold keptN at *; omega
        go_wp2
        go_ret
        rw [← hkk]
        exact ⟨_, rfl, HS.out.own, HS.out.below⟩
    · have g0 : decide ((k : Int) < (CL : Int)) = false := by simp; omega
      have hlt' : ¬ (k : Int) < (CL : Int) := by omega
      have hkk : k = keptN dir CL := by unfold keptN at *; omega
      go_wp2
      go_ret
      rw [← hkk]
      exact ⟨_, rfl, HS.out.own, HS.out.below⟩
end Dsk
end Go.Proofs.Ytbloifnibgdeoaa
namespace Go.Proofs.Ytbloifnibgdeoaa
namespace Dsk
open Go.RowKit Go.Shelf Go.Maps Go.Sort Byt Laws
set_option linter.unusedVariables false
set_option maxRecDepth 100000
set_option linter.unusedSimpArgs false

/-- P3.7 of the reference. -/
def Rm.image (m : Rm) (dir : Int) (ks : List Int) : List Fi := told m.fl ks (m.rest dir)
theorem ofK_ba (k : Key) : ofK k = ba k := rfl
/-- The data's blocks rise. -/
def Inc (ds : List (Option Addr × Nat)) (w : World) : Prop := (∀ (i : Nat) (x : Option Addr × Nat) (ad : Addr), ds[i]? = some x → x.1 = some ad → ad.block < w.heap.size) ∧ ∀ (i j : Nat) (x y : Option Addr × Nat) (ad bd : Addr), i < j → ds[i]? = some x → ds[j]? = some y → x.1 = some ad → y.1 = some bd → ad.block < bd.block
theorem Inc.mono {ds : List (Option Addr × Nat)} {w w' : World} (h : Inc ds w) (hs : w.heap.size ≤ w'.heap.size) : Inc ds w' := ⟨fun i x ad hx e => Nat.lt_of_lt_of_le (h.1 i x ad hx e) hs, h.2⟩
theorem Inc.push {ds : List (Option Addr × Nat)} {w w1 w2 : World} (h : Inc ds w) {t : TypeId} {a : Option Addr} {c : Nat} {l : List Nat} (hn : New t w.heap.size w1 a c l) (hs : w.heap.size ≤ w2.heap.size) (hs2 : w1.heap.size ≤ w2.heap.size) : Inc (ds ++ [(a, c)]) w2 := by
  have hlast : ∀ ad, a = some ad → w.heap.size ≤ ad.block ∧ ad.block < w1.heap.size := fun ad e => hn.row.lt ad.block (by rw [e]; rfl)
  have hsplit : ∀ (i : Nat) (x : Option Addr × Nat), (ds ++ [(a, c)])[i]? = some x → (ds[i]? = some x ∧ i < ds.length) ∨ (x = (a, c) ∧ i = ds.length) := fun i x hx => by
    by_cases hi : i < ds.length
    · rw [List.getElem?_append_left hi] at hx; exact .inl ⟨hx, hi⟩
    · have hl := (List.getElem?_eq_some_iff.1 hx).1
      simp at hl
      have e : i = ds.length := by omega
      subst e
      simp at hx
      exact .inr ⟨hx.symm, rfl⟩
  refine ⟨fun i x ad hx e => ?_, fun i j x y ad bd hij hx hy ex ey => ?_⟩
  · rcases hsplit i x hx with ⟨hx, _⟩ | ⟨rfl, _⟩
    · have := h.1 i x ad hx e; omega
    · have := (hlast ad e).2; omega
  · rcases hsplit i x hx with ⟨hx, hi⟩ | ⟨rfl, hi⟩
    · rcases hsplit j y hy with ⟨hy, _⟩ | ⟨rfl, _⟩
      · exact h.2 i j x y ad bd hij hx hy ex ey
      · have := h.1 i x ad hx ex; have := (hlast bd ey).1; omega
    · rcases hsplit j y hy with ⟨hy, hj⟩ | ⟨rfl, hj⟩
      · omega
      · omega
set_option maxHeartbeats 4000000 in
theorem rimage_any {T : Nat → Nat} {w : World} {d : Nat} {m : Rm} (h : Re T w d m) (hch : m.ch.length ≤ 900000) (hkd : ∀ c ∈ m.ch, c.kind = 1 ∨ c.kind = 2 ∨ c.kind = 3) (dir : Int) (hdir : dir ≤ 9223372036854775807) (hids : ∀ p ∈ m.rest dir, p.2 < m.fl.length) (ak : Option Addr) (ck : Nat) (ks : List Int) (hk : IntsAt w ak ks) (hck : ks.length ≤ ck) (hck2 : ck ≤ 9223372036854775807) (hkw : ∀ x ∈ ks, x ≤ 9223372036854775807) :
    Calls Try.prog 18 #[.pointer (some ⟨d, 0, none⟩), .int .i64 dir, .slice ak ks.length ck] w fun e w' => ∃ v ds, e = .returned v ∧ FilesAt w.heap.size w' v (m.image dir ks) ds ∧ Below w.heap.size w w' ∧ Inc ds w' := by
  obtain ⟨fb, vf, vn, vs, vc, h⟩ := h
  obtain ⟨i3, hi3, hz0, hz1, hz2⟩ := info_parts infoF
  obtain ⟨i8, hi8, hy0, hy1, hy2⟩ := info_parts infoB
  have hmost : (m.rest dir).length ≤ 9900000 := by
    have z := (dk_facts h.risesS (keptN dir m.ch.length)).2
    have z2 := h.mostS
    have z3 : keptN dir m.ch.length ≤ m.ch.length := by unfold keptN; omega
    show (m.dk _).length ≤ _
    omega
  have hmf := h.mostF
  obtain ⟨KL, hKL⟩ : ∃ KL, ks.length = KL := ⟨_, rfl⟩
  have HKL : Hid (ks.length = KL) := hKL
  rw [hKL] at hck ⊢
  clear hKL
  have HIK : Hid (IntsAt w ak ks) := hk
  have HKW : Hid (∀ x ∈ ks, x ≤ 9223372036854775807) := hkw
  have HIDS : Hid (∀ p ∈ m.rest dir, p.2 < m.fl.length) := hids
  obtain ⟨L, hL⟩ : ∃ L : Nat, (m.rest dir).length = L := ⟨_, rfl⟩
  obtain ⟨F, hF⟩ : ∃ F : Nat, m.fl.length = F := ⟨_, rfl⟩
  obtain ⟨af, cf, rfl⟩ := own_slice h.fls
  have HR0 : Hid (Calls Try.prog 56 #[.pointer (some ⟨d, 0, none⟩), .int .i64 dir] w fun e w' => ∃ v', e = .returned v' ∧ w'.ownsRow w.heap.size 98 2 v' (m.rest dir).length (enRow (m.rest dir)) ∧ Below w.heap.size w w') := rrest_any h hch hkd dir hdir
  have HH : Hid (Rd T w d fb m (.slice af m.fl.length cf) vn vs vc) := h
  have HL : Hid ((m.rest dir).length = L) := hL
  have HFL : Hid (m.fl.length = F) := hF
  rw [hL] at hmost
  rw [hF] at hmf
  clear h hL hF hch hk hkw hids hkd
  obtain ⟨IM, hIM⟩ : ∃ IM, IM = m.image dir ks := ⟨_, rfl⟩
  have HIM : Hid (IM = m.image dir ks) := hIM
  have HIL : Hid (IM.length = L) := by show _ = _; rw [hIM, Rm.image, told_length]; exact HL.out
  rw [← hIM]
  clear hIM
  go_enter Try.func18, Try.ntmps18
  go_wp2_with (go_at_call 56; refine HR0.out.mono ?_; rintro e w0 ⟨v0, rfl, h1, h2⟩; rw [HL.out] at h1; obtain ⟨an, cn, rfl⟩ := own_slice h1; have H0 : Hid (w0.ownsRow w.heap.size 98 2 (.slice an L cn) L (enRow (m.rest dir)) ∧ Below w.heap.size w w0) := ⟨h1, h2⟩; clear h1 h2)
  go_loopw [8, 9, 10, 11, 12] (fun told i _ _ _ wr => ∃ (k : Nat) (ds : List (Option Addr × Nat)), i = .int .i64 k ∧ k ≤ L ∧ Hid (FilesAt w0.heap.size wr told (IM.take k) ds) ∧ Hid (Below w0.heap.size w0 wr) ∧ Hid (Inc ds wr)) (fun _ i _ _ _ _ => L - (intOf i).toNat)
  case atStart => exact ⟨0, [], rfl, Nat.zero_le _, ⟨rfl, World.ownsRow_nil _ _ _ _, by simp⟩, Below.refl _ _, ⟨fun i x ad hx => by simp at hx, fun i j x y ad bd _ hx => by simp at hx⟩⟩
  case round =>
    rename World => W
    obtain ⟨k, ds, rfl, hk, HFA, HBW, HIC⟩ := hrel
    have HW0 : Hid (Rd T w0 d fb m (.slice af m.fl.length cf) vn vs vc) := HH.out.below H0.out.2
    have HW : Hid (Rd T W d fb m (.slice af m.fl.length cf) vn vs vc) := HW0.out.below HBW.out
    have HOE : Hid (W.ownsRow w.heap.size 98 2 (.slice an L cn) L (enRow (m.rest dir))) := (Keep.below (bs := []) HBW.out).own H0.out.1 (by simp)
    have t1 := (HW.out.top.2 1 (by omega)).1
    simp only [rcell] at t1
    rw [HFL.out] at t1
    by_cases hlt : k < L
    · have hlt' : (k : Int) < (L : Int) := by omega
      obtain ⟨p, hp⟩ : ∃ p, (m.rest dir)[k]? = some p := ⟨_, List.getElem?_eq_getElem (by rw [HL.out]; exact hlt)⟩
      have hpm : p ∈ m.rest dir := List.mem_of_getElem? hp
      have hid := HIDS.out p hpm
      obtain ⟨f, hf⟩ : ∃ f, m.fl[p.2]? = some f := ⟨_, List.getElem?_eq_getElem hid⟩
      obtain ⟨a, cc, hfi⟩ := HW.out.file p.2 f hf
      obtain ⟨hxx, hcn, hE⟩ := enR_own HOE.out
      clear hxx
      obtain ⟨gn, rfl, hcell⟩ := hE (by intro e; rw [e] at hp; simp at hp)
      obtain ⟨e0, e1⟩ := hcell k p hp
      obtain ⟨gf, hgf, q0, hcf⟩ : ∃ gf, af = some ⟨gf, 0, none⟩ ∧ W.cell? ⟨gf, p.2, none⟩ = some (.pointer (some ⟨fb p.2, 0, none⟩)) ∧ F ≤ cf := by
        rcases HW.out.fls.2 with ⟨e, e0⟩ | ⟨g, cap, cur, e, q1, q2, q3, q4, q5, q6⟩
        · omega
        · obtain ⟨e1, _, e3⟩ := Value.slice.inj e
          refine ⟨g, e1, ?_, by rw [← HFL.out, e3]; exact q3⟩
          rw [Go.Joins.cell_of_block q2]
          have := ptrRow_get (fb := fb) hid
          rw [← q6, List.getElem?_take] at this
          split at this
          · simpa using this
          · cases this
      subst hgf
      have cf0 := (hfi.fld.2 0 (by omega)).1
      have cf1 := (hfi.fld.2 1 (by omega)).1
      simp only [fcell, if_true, Nat.one_ne_zero, if_false] at cf0 cf1
      have hbig := hfi.big
      have HFI : Hid (FileAt T W (fb p.2) p.2 f a cc) := hfi
      have HTK : Hid ((IM.take k).length = k) := by show _ = _; rw [List.length_take, HIL.out]; omega
      have hle := leftN_le hfi.sure (amongN ks k)
      obtain ⟨S, hS⟩ : ∃ S, S = leftN f.data.length f.sure (amongN ks k) := ⟨_, rfl⟩
      have HSS : Hid (S = leftN f.data.length f.sure (amongN ks k) ∧ S ≤ f.data.length ∧ f.sure ≤ S) := ⟨hS, by omega, by rw [hS]; unfold leftN; omega⟩
      have HTL : Hid ((f.data.take S).length = S) := by
        show _ = _
        rw [List.length_take]; have := HSS.out.2.1; omega
      have HNX : Hid (IM.take (k + 1) = IM.take k ++ [⟨ofK p.1, f.data.take S, S⟩]) := by
        show _ = _
        rw [List.take_add_one]
        congr 1
        have z := told_get (fl := m.fl) (ks := ks) hp
        have z2 : leftD m.fl p.2 (amongN ks k) = f.data.take S := by rw [HSS.out.1]; simp [leftD, dataOf, sureOf, lenOf, hf]
        rw [z2, HTL.out] at z
        rw [HIM.out, Rm.image, z]; rfl
      rw [HFL.out] at hid
      have hid' : (p.2 : Int) < (F : Int) := by omega
      have hWs := HBW.out.size
      obtain ⟨au, cu, hu⟩ := own_slice HFA.out.row
      rw [HTK.out] at hu
      subst hu
      have HO : Hid (W.ownsRow w0.heap.size 67 3 (.slice au k cu) k (fiRow (IM.take k) ds)) := by
        have z := HFA.out.row
        rw [HTK.out] at z
        exact z
      obtain ⟨nm, hnm⟩ : ∃ nm, nm = ofK p.1 := ⟨_, rfl⟩
      obtain ⟨pi, hpi⟩ : ∃ pi, pi = p.2 := ⟨_, rfl⟩
      rw [← hnm] at e0 HNX
      rw [← hpi] at e1 q0 cf0 cf1 hid hid' HFI
      clear hcell hE hf hp hpm hfi hnm hpi
      clear hS hle
      have hsr := HFI.out.sure
      have HIW : Hid (IntsAt W ak ks) := (HIK.out.below H0.out.2).below HBW.out
      by_cases hz : KL = 0
      · have hz' : ¬ (0 : Int) < (KL : Int) := by omega
        have hSe : S = f.sure := by
          have z := HSS.out.1
          have za : amongN ks k = 0 := by unfold amongN; rw [List.eq_nil_of_length_eq_zero (HKL.out.trans hz)]; rfl
          rw [za] at z
          unfold leftN at z
          simp at z
          exact z
        have hwr : IntKind.i64.wrap ((f.sure : Int) + 0) = (S : Int) := by rw [hSe, Int.add_zero]; exact IntWalk.i64_in _ (by omega)
        have hwr' : IntKind.i64.wrap (f.sure : Int) = (S : Int) := by rw [hSe]; exact IntWalk.i64_in _ (by omega)
        clear hSe hz
        go_wp2
        go_quiet (fail)
        go_wp2
        have HBN : Hid (∀ n, Below W.heap.size W (W.drewN n)) := fun n => below_drewN (Below.refl _ _) n
        have hgl : gn < W.heap.size := World.block_lt_of_cell? W _ e0
        have hfl := HFI.out.fld.1
        have hlc : f.data.length ≤ cc := HFI.out.own.le
        have hS2 := HSS.out.2.1
        have hsc : (S : Int) ≤ (cc : Int) := by omega
        go_region_law (refine step_cloneB _ (by rfl) (.const (.slice none 0 0)) (.tmp 65) 30 (by rfl) 5 i8 Try.underlying30 hi8 hy0 hy1 hy2 (by rfl) a S cc (f.data.take S) (by simp [Act.eval, Act.put]) HTL.out.symm HFI.out.own.cap (HFI.out.own.isB.take _) (by omega) ?_; intro a1 c1' W1 hn1 hb1; have hb1' : Below W.heap.size W W1 := (HBN.out _).trans hb1; have HC : Hid (New 5 W.heap.size W1 a1 c1' (f.data.take S) ∧ Below W.heap.size W W1 ∧ W1.ownsRow w0.heap.size 67 3 (.slice au k cu) k (fiRow (IM.take k) ds)) := ⟨hn1, hb1', (Keep.below (bs := []) hb1').own HO.out (by simp)⟩; have d0 : W1.cell? ⟨gn, k * 2, none⟩ = some (.string nm) := (hb1'.cell (p := ⟨gn, k * 2, none⟩) hgl).trans e0; rw [HTL.out]; clear hn1 hb1 hb1')
        all_goals
          go_wp2_with (at_builtin; refine wpList_app _ (by rfl) (.tmp 67) (.tmp 77) 22 (by rfl) w0.heap.size 67 i3 _ 3 48 Try.underlying22 hi3 hz0 hz1 hz2 rfl (by omega) (.slice au k cu) k (fiRow (IM.take k) ds) (by rfl) (HC.out.2.2.alloc _) ⟨W1.heap.size, 0, none⟩ 1 1 [.string nm, .slice a1 S c1', .int .i64 S] (by rfl) (by rfl) (World.news_of_block (heap_alloc_new W1 _)) (by intro u hu; simp at hu; rcases hu with rfl | rfl | rfl <;> rfl) (by intro _; omega) (by unfold maxLen; omega) (by omega) (Nat.le_trans (Nat.le_trans hWs HC.out.2.1.size) (Keep.alloc [] _ _).size) (W1.heap.size + 1) (by simp) ?_; intro g7 c7 w7 hown7 hgr7 hat7 hlt7; have HR : Hid (FilesAt w0.heap.size w7 (.slice (some ⟨g7, 0, none⟩) (k + 1) c7) (IM.take k ++ [⟨nm, f.data.take S, S⟩]) (ds ++ [(a1, c1')]) ∧ Keep (Value.slice au k cu).ownBlock.toList W w7 ∧ W1.heap.size ≤ w7.heap.size) := ⟨(by have z := HFA.out.push HC.out.2.1 hWs (f := ⟨nm, f.data.take S, S⟩) HC.out.1 (Keep.alloc [] _ _) hgr7 (c' := c7) (by rw [HTK.out]; show w7.ownsRow _ _ _ _ _ (_ ++ [.string nm, .slice a1 (f.data.take S).length c1', .int .i64 S]); rw [HTL.out]; exact hown7) (hat7.imp id (by intro e; omega)); rw [HTK.out] at z; exact z), (Keep.below HC.out.2.1).trans ((Keep.alloc _ _ _).trans (Keep.grown hgr7)), ((Keep.alloc (Value.slice au k cu).ownBlock.toList W1 _).trans (Keep.grown hgr7)).size⟩; clear hown7 hgr7 hat7 hlt7)
          go_roundw
          case rel =>
            refine ⟨k + 1, ds ++ [(a1, c1')], by go_num, hlt, ?_, ?_, HIC.out.push HC.out.1 HR.out.2.1.size HR.out.2.2⟩
            · show FilesAt _ _ _ _ _
              rw [HNX.out]; exact HR.out.1
            · refine HBW.out.trans ⟨HR.out.2.1.os, HR.out.2.1.tape, HR.out.2.1.output, HR.out.2.1.size, fun b hb => HR.out.2.1.block b (by omega) (fun hm => ?_)⟩
              have := (HO.out.lt b (by simpa using hm)).1
              omega
          case measure => simp [intOf]; omega
      · have hz' : (0 : Int) < (KL : Int) := by omega
        have hkl0 : (KL : Int) ≠ 0 := by omega
        have hklq : ((KL : Int) == 0) = false := by simp; omega
        obtain ⟨r, hr⟩ : ∃ r : Nat, r = k % KL := ⟨_, rfl⟩
        have hrl : r < KL := by rw [hr]; exact Nat.mod_lt _ (by omega)
        have hrem : Int.tmod (k : Int) (KL : Int) = (r : Int) := by rw [hr, Int.tmod_eq_emod_of_nonneg (by omega)]; rfl
        obtain ⟨o, ho⟩ : ∃ o, ks[r]? = some o := ⟨_, List.getElem?_eq_getElem (by rw [HKL.out]; exact hrl)⟩
        have ham : amongN ks k = o := by unfold amongN; rw [HKL.out, ← hr, ho]; rfl
        obtain ⟨kb, koff, rfl, kc⟩ := HIW.out r o ho
        have hSd : S = f.sure + min o.toNat (f.data.length - f.sure) := by rw [← ham]; exact HSS.out.1
        have hom := HKW.out o (List.mem_of_getElem? ho)
        have hrl' : (r : Int) < (KL : Int) := by omega
        have hrl0 : (0 : Int) ≤ (r : Int) := by omega
        clear hr ho ham hz
        have hwr : IntKind.i64.wrap ((f.sure : Int) + min (max o 0) ((f.data.length : Int) - (f.sure : Int))) = (S : Int) := by rw [IntWalk.i64_in _ (by omega)]; omega
        clear hSd
        go_wp2
        go_quiet (fail)
        go_wp2
        go_region
        go_wp2
        have HBN : Hid (∀ n, Below W.heap.size W (W.drewN n)) := fun n => below_drewN (Below.refl _ _) n
        have hgl : gn < W.heap.size := World.block_lt_of_cell? W _ e0
        have hfl := HFI.out.fld.1
        have hlc : f.data.length ≤ cc := HFI.out.own.le
        have hS2 := HSS.out.2.1
        have hsc : (S : Int) ≤ (cc : Int) := by omega
        go_region_law (refine step_cloneB _ (by rfl) (.const (.slice none 0 0)) (.tmp 65) 30 (by rfl) 5 i8 Try.underlying30 hi8 hy0 hy1 hy2 (by rfl) a S cc (f.data.take S) (by simp [Act.eval, Act.put]) HTL.out.symm HFI.out.own.cap (HFI.out.own.isB.take _) (by omega) ?_; intro a1 c1' W1 hn1 hb1; have hb1' : Below W.heap.size W W1 := (HBN.out _).trans hb1; have HC : Hid (New 5 W.heap.size W1 a1 c1' (f.data.take S) ∧ Below W.heap.size W W1 ∧ W1.ownsRow w0.heap.size 67 3 (.slice au k cu) k (fiRow (IM.take k) ds)) := ⟨hn1, hb1', (Keep.below (bs := []) hb1').own HO.out (by simp)⟩; have d0 : W1.cell? ⟨gn, k * 2, none⟩ = some (.string nm) := (hb1'.cell (p := ⟨gn, k * 2, none⟩) hgl).trans e0; rw [HTL.out]; clear hn1 hb1 hb1')
        all_goals
          go_wp2_with (at_builtin; refine wpList_app _ (by rfl) (.tmp 67) (.tmp 77) 22 (by rfl) w0.heap.size 67 i3 _ 3 48 Try.underlying22 hi3 hz0 hz1 hz2 rfl (by omega) (.slice au k cu) k (fiRow (IM.take k) ds) (by rfl) (HC.out.2.2.alloc _) ⟨W1.heap.size, 0, none⟩ 1 1 [.string nm, .slice a1 S c1', .int .i64 S] (by rfl) (by rfl) (World.news_of_block (heap_alloc_new W1 _)) (by intro u hu; simp at hu; rcases hu with rfl | rfl | rfl <;> rfl) (by intro _; omega) (by unfold maxLen; omega) (by omega) (Nat.le_trans (Nat.le_trans hWs HC.out.2.1.size) (Keep.alloc [] _ _).size) (W1.heap.size + 1) (by simp) ?_; intro g7 c7 w7 hown7 hgr7 hat7 hlt7; have HR : Hid (FilesAt w0.heap.size w7 (.slice (some ⟨g7, 0, none⟩) (k + 1) c7) (IM.take k ++ [⟨nm, f.data.take S, S⟩]) (ds ++ [(a1, c1')]) ∧ Keep (Value.slice au k cu).ownBlock.toList W w7 ∧ W1.heap.size ≤ w7.heap.size) := ⟨(by have z := HFA.out.push HC.out.2.1 hWs (f := ⟨nm, f.data.take S, S⟩) HC.out.1 (Keep.alloc [] _ _) hgr7 (c' := c7) (by rw [HTK.out]; show w7.ownsRow _ _ _ _ _ (_ ++ [.string nm, .slice a1 (f.data.take S).length c1', .int .i64 S]); rw [HTL.out]; exact hown7) (hat7.imp id (by intro e; omega)); rw [HTK.out] at z; exact z), (Keep.below HC.out.2.1).trans ((Keep.alloc _ _ _).trans (Keep.grown hgr7)), ((Keep.alloc (Value.slice au k cu).ownBlock.toList W1 _).trans (Keep.grown hgr7)).size⟩; clear hown7 hgr7 hat7 hlt7)
          go_roundw
          case rel =>
            refine ⟨k + 1, ds ++ [(a1, c1')], by go_num, hlt, ?_, ?_, HIC.out.push HC.out.1 HR.out.2.1.size HR.out.2.2⟩
            · show FilesAt _ _ _ _ _
              rw [HNX.out]; exact HR.out.1
            · refine HBW.out.trans ⟨HR.out.2.1.os, HR.out.2.1.tape, HR.out.2.1.output, HR.out.2.1.size, fun b hb => HR.out.2.1.block b (by omega) (fun hm => ?_)⟩
              have := (HO.out.lt b (by simpa using hm)).1
              omega
          case measure => simp [intOf]; omega
    · have hk' : k = L := by omega
      subst hk'
      go_wp2
      go_ret
      refine ⟨_, ds, rfl, ?_, ?_, HIC.out⟩
      rotate_left
      · exact H0.out.2.trans (HBW.out.mono H0.out.2.size)
      have e : IM.take k = IM := List.take_of_length_le (by rw [HIL.out]; exact Nat.le_refl _)
      have := HFA.out
      rw [e] at this
      exact this.lower H0.out.2.size
end Dsk
end Go.Proofs.Ytbloifnibgdeoaa
namespace Go.Proofs.Ytbloifnibgdeoaa
namespace Dsk
open Go.RowKit Go.Maps Go.Sort Byt Laws
set_option linter.unusedVariables false
set_option maxRecDepth 100000
attribute [local go_sem ↓] Go.wp_at_zero Go.wp_at_succ

/-- P3.2, P3.3: Rename. -/
def Dm.rename (m : Dm) (s t : ByteArray) : Int × Dm :=
  if (m.reach (okN s && okN t) (ky s)).1 = 0 ∧ s ≠ t then
    match look m.now (ky s) with
    | some i => (0, { (m.reach (okN s && okN t) (ky s)).2.note ⟨s, some i, t, look m.now (ky t)⟩ with now := ins (del m.now (ky s)) (ky t) i })
    | none => m.reach (okN s && okN t) (ky s)
  else m.reach (okN s && okN t) (ky s)
theorem ky_ne {s t : ByteArray} (h : s ≠ t) : ky s ≠ ky t := fun e => h (by
  cases s; cases t
  simp only [ky] at e
  congr
  exact Array.toList_inj.1 e)
theorem del_ins {l : List (Key × Nat)} (h : Rises l) {k k' : Key} (hne : k ≠ k') (i : Nat) : del (ins l k' i) k = ins (del l k) k' i := by
  refine rises_ext (rises_del (rises_ins h _ _) _) (rises_ins (rises_del h _) _ _) fun x => ?_
  by_cases e : x = k
  · subst e
    rw [look_del_same, look_ins_other _ _ hne, look_del_same]
  · rw [look_del_other _ e]
    by_cases e' : x = k'
    · subst e'
      rw [look_ins_same, look_ins_same]
    · rw [look_ins_other _ _ e', look_ins_other _ _ e', look_del_other _ e]
theorem usedOf_ren {fl : List Fl} {l : List (Key × Nat)} (h : Rises l) {k k' : Key} {i : Nat} (hk : look l k = some i) (hne : k ≠ k') :
    usedOf fl (ins (del l k) k' i) + (match look l k' with | some o => lenOf fl o | none => 0) = usedOf fl l := by
  have h1 := usedOf_del (fl := fl) h hk
  have h2 := usedOf_ins' (fl := fl) (rises_del h k) k' i
  rw [h2]
  cases ho : look l k' with
  | none =>
    have : look (del l k) k' = none := by rw [look_del_other _ (Ne.symm hne)]; exact ho
    rw [del_none this]
    simp only
    omega
  | some o =>
    have : look (del l k) k' = some o := by rw [look_del_other _ (Ne.symm hne)]; exact ho
    have h3 := usedOf_del (fl := fl) (rises_del h k) this
    simp only
    omega
theorem ids_ren {l : List (Key × Nat)} (h : Rises l) {k k' : Key} {i : Nat} (hk : look l k = some i) (ha : (l.map (·.2)).Nodup) : ((ins (del l k) k' i).map (·.2)).Nodup := by
  rw [(ids_ins' (rises_del h k) k' i).nodup_iff, List.nodup_cons]
  have h1 := (ids_del h hk).nodup_iff.1 ha
  rw [List.nodup_cons] at h1
  refine ⟨fun hm => h1.1 ?_, nodup_del h1.2 k'⟩
  obtain ⟨p, hp, e⟩ := List.mem_map.1 hm
  exact List.mem_map.2 ⟨p, mem_del hp, e⟩
theorem len_ren {l : List (Key × Nat)} (h : Rises l) {k k' : Key} {i : Nat} (hk : look l k = some i) : (ins (del l k) k' i).length ≤ l.length := by
  have h1 := (ids_ins' (rises_del h k) k' i).length_eq
  have h2 := len_del_some h hk
  have h3 := len_del (del l k) k'
  simp at h1
  omega
theorem tl_eq (s : ByteArray) : s.toList = ky s := by
  exact ByteArray.toList_eq s
theorem reach_two {T : Nat → Nat} {w : World} {d mb : Nat} {fb : Nat → Nat} {m : Dm} {cv : Value} {D : DataW (Option Addr)} (h : Pdi T w d mb fb m cv D) (s t : ByteArray) (hs : s.size ≤ maxLen) (ht : t.size ≤ maxLen) :
    Calls Try.prog 71 #[.pointer (some ⟨d, 0, none⟩), .slice (some ⟨w.heap.size, 0, none⟩) 2 2] (w.alloc (.cells #[.string s, .string t] 9)) fun e w' =>
      e = .returned (.tuple #[reachV fb (m.reach (okN s && okN t) (ky s)).1 (look m.now (ky s)), .int .i64 (m.reach (okN s && okN t) (ky s)).1]) ∧ Pdi T w' d mb fb (m.reach (okN s && okN t) (ky s)).2 cv D ∧ Goes T T w w' := by
  have hb : Below w.heap.size w (w.alloc (.cells #[.string s, .string t] 9)) := (Below.refl _ _).alloc (Nat.le_refl _) _
  have e1 : [s, t].all okN = (okN s && okN t) := by simp
  have := reach_pd (h.below hb) w.heap.size 2 2 [s, t] s (fun i s' hi => by
    match i, hi with
    | 0, hi => simp at hi; subst hi; rw [World.cell?_alloc_at _ _ _ _ rfl]; rfl
    | 1, hi => simp at hi; subst hi; rw [World.cell?_alloc_at _ _ _ _ rfl]; rfl
    | i + 2, hi => simp at hi) (by simp) (h.fresh _ (Nat.le_refl _)) rfl rfl (Nat.le_refl _) (by omega) (by simp; exact ⟨hs, ht⟩)
  rw [e1] at this
  refine this.mono ?_
  rintro e w' ⟨rfl, h1, h2⟩
  exact ⟨rfl, h1, (Goes.below hb).trans h2⟩
set_option maxHeartbeats 1000000 in
theorem rename_any {T : Nat → Nat} {w : World} {d mb : Nat} {fb : Nat → Nat} {m : Dm} (h : Pd T w d mb fb m) (s t : ByteArray) (hs : s.size ≤ maxLen) (ht : t.size ≤ maxLen) (hch : m.ch.length ≤ 1000000) (hu : m.used ≤ 9223372036854775807) :
    Calls Try.prog 30 #[.pointer (some ⟨d, 0, none⟩), .string s, .string t] w fun e w' => e = .returned (.int .i64 (m.rename s t).1) ∧ ∃ T', Pd T' w' d mb fb (m.rename s t).2 ∧ Goes T T' w w' := by
  obtain ⟨cv, D, h⟩ := h
  have HH : Hid (Pdi T w d mb fb m cv D) := h
  have HS : Hid (s.size ≤ maxLen ∧ t.size ≤ maxLen) := ⟨hs, ht⟩
  clear h hs ht
  go_enter Try.func30, Try.ntmps30
  go_wp2_with fail
  refine (reach_two HH.out s t HS.out.1 HS.out.2).mono ?_
  rintro e w1 ⟨rfl, h1, g1⟩
  obtain ⟨m1, hm1⟩ : ∃ m1, m1 = (m.reach (okN s && okN t) (ky s)).2 := ⟨_, rfl⟩
  have HM1 : Hid (m1 = (m.reach (okN s && okN t) (ky s)).2) := hm1
  rw [← hm1] at h1
  have H1 : Hid (Pdi T w1 d mb fb m1 cv D ∧ Goes T T w w1) := ⟨h1, g1⟩
  have HSM : Hid (m1.now = m.now ∧ m1.fl = m.fl ∧ m1.ch = m.ch) := by have := reach_same m (okN s && okN t) (ky s); rw [hm1]; exact ⟨this.1, this.2.1, this.2.2.1⟩
  obtain ⟨ec, hec⟩ : ∃ ec, ec = (m.reach (okN s && okN t) (ky s)).1 := ⟨_, rfl⟩
  have HEC : Hid (ec = (m.reach (okN s && okN t) (ky s)).1) := hec
  rw [← hec]
  have DONE : Hid (¬ (ec = 0 ∧ s ≠ t) → m.rename s t = (ec, m1)) := fun hn => by
    rw [HM1.out]; unfold Dm.rename
    rw [if_neg (by rw [← HEC.out]; exact hn), HEC.out]
  by_cases he : ec = 0
  · obtain ⟨i, hi⟩ := reach_ok (hec.symm.trans he)
    subst he
    rw [reachV_ok, hi]
    simp only [pv]
    by_cases hst : s = t
    · subst hst
      clear hm1 h1 g1 hec
      go_wp2
      go_ret
      have e := DONE.out (fun h => h.2 rfl)
      rw [e]
      exact ⟨rfl, T, ⟨cv, D, H1.out.1⟩, H1.out.2⟩
    · have HST : Hid (s ≠ t) := hst
      have hst3 : ¬ s.toList = t.toList := fun e => ky_ne hst (by rw [tl_eq, tl_eq] at e; exact e)
      have hst4 : (s.toList == t.toList) = false := by simpa using hst3
      have HI : Hid (look m.now (ky s) = some i) := hi
      have hi1 : look m1.now (ky s) = some i := by rw [HSM.out.1]; exact hi
      have HI1 : Hid (look m1.now (ky s) = some i) := hi1
      have hlt : i < m1.fl.length := h1.ids _ (look_some hi1)
      have c6 := (h1.top.1.2 6 (by omega)).1
      simp only [Top.cell] at c6
      clear hm1 h1 g1 hec hi hi1
      have HLT : Hid (i < m1.fl.length) := hlt
      clear hlt
      cases hl2 : look m1.now (ky t) with
      | none =>
        have HO : Hid (look m1.now (ky t) = none) := hl2
        go_wp2_with (at_lookup; refine wpList_look H1.out.1 t HS.out.2 (by rfl) (.tmp 29) (.tmp 30) (by rfl) (by rfl) (by rfl) ?_; rw [hl2]; simp only [pv])
        refine (note_any ⟨cv, D, H1.out.1⟩ ⟨s, some i, t, none⟩ ⟨(fun j e => by cases e; exact HLT.out), (fun j e => by cases e)⟩ (by rw [HSM.out.2.2]; exact hch) HS.out).mono ?_
        rintro e w2 ⟨rfl, T2, ⟨cv2, D2, h2⟩, g2⟩
        have H2 : Hid (Pdi T2 w2 d mb fb (m1.note ⟨s, some i, t, none⟩) cv2 D2 ∧ Goes T T2 w w2) := ⟨h2, H1.out.2.trans g2⟩
        have H3 : Hid (Keep [d] w2 w2 ∧ IsTop w2 d ⟨m1.rig, m1.room, usedOf m1.fl (ins (del m1.now (ky s)) (ky t) i), .map (some mb), cv2, m1.down⟩ ∧ w2.ownsMap Try.prog 9 ptrR mb (m1.note ⟨s, some i, t, none⟩).now.length D2) := by
          refine ⟨Keep.refl _ _, ?_, h2.map⟩
          have e := usedOf_ren (fl := m1.fl) H1.out.1.dir.rises HI1.out (ky_ne HST.out)
          rw [hl2] at e
          simp only [Nat.add_zero] at e
          rw [e]
          exact h2.top
        clear h2 g2 c6 hl2
        have hdm : d ≠ mb := by rintro rfl; have h1 := H2.out.1.td; have h2 := H2.out.1.tm; omega
        have HDM : Hid (d ≠ mb) := hdm
        clear hdm
        have HMX : Hid ((m1.note ⟨s, some i, t, none⟩).now.length < maxLen) := by
          have := H2.out.1.most
          show _ < _
          unfold maxLen; omega
        have c63 := (H3.out.2.1.1.2 6 (by omega)).1
        simp only [Top.cell] at c63
        go_wp2_with (first
          | (at_mapUpdate; refine wpList_mapUpdate_own _ (by rfl) (.tmp 56) (.tmp 57) (.tmp 58) 82 (by rfl) 9 87 keyed Try.underlying82 ptrR mb _ D2 (by rfl) H3.out.2.2 HMX.out _ _ (.string (ky t)) (by rfl) (by rfl) (keyOf_s t HS.out.2) (.held (some ⟨fb i, 0, none⟩)) [] (by rfl) ?_; intro w4 ho4 hg4; have H4 : Hid (w4.ownsMap Try.prog 9 ptrR mb _ (D2.put (.string (ky t)) (.held (some ⟨fb i, 0, none⟩))) ∧ Keep [mb] w2 w4) := ⟨ho4, Keep.grown hg4⟩; have c64 := ((H3.out.2.1.keep H4.out.2 (by simp; exact HDM.out)).1.2 6 (by omega)).1; simp only [Top.cell] at c64; clear ho4 hg4)
          | (at_delete; refine wpList_delete_own _ (by rfl) (.tmp 62) (.tmp 63) 82 9 (by rfl) 87 keyed Try.underlying82 ptrR mb _ _ (by rfl) H4.out.1 _ (.string (ky s)) (by rfl) (keyOf_s s HS.out.1) ?_; intro w5 ho5 ht5; have H5 : Hid (w5.ownsMap Try.prog 9 ptrR mb _ ((D2.put (.string (ky t)) (.held (some ⟨fb i, 0, none⟩))).del (.string (ky s))) ∧ Keep [mb] w4 w5) := ⟨ho5, Keep.grown ht5.grown⟩; clear ho5 ht5))
        go_ret
        have e : m.rename s t = (0, { m1.note ⟨s, some i, t, none⟩ with now := ins (del m1.now (ky s)) (ky t) i }) := by
          have e1 := HSM.out.1
          have e2 := HO.out
          rw [HM1.out] at e1 e2 ⊢
          unfold Dm.rename
          rw [if_pos ⟨HEC.out.symm, HST.out⟩, HI.out]
          simp only
          rw [← e1, e2]
        rw [e]
        have hdd := (H2.out.1.dir.put (ky t) i).del (ky s)
        rw [del_ins H2.out.1.dir.rises (ky_ne HST.out)] at hdd
        obtain ⟨z1, z2⟩ := H2.out.1.redir (w' := w5) (now' := ins (del m1.now (ky s)) (ky t) i) (((H3.out.1.mono (by simp)).trans (H4.out.2.mono (by simp))).trans (H5.out.2.mono (by simp))) ((H3.out.2.1.keep H4.out.2 (by simp; exact HDM.out)).keep H5.out.2 (by simp; exact HDM.out)) H5.out.1 hdd (fun p hp => by
          rcases ins_mem hp with rfl | hp
          · exact HLT.out
          · exact H2.out.1.ids p (mem_del hp)) (ids_ren H2.out.1.dir.rises HI1.out H2.out.1.apart) (Nat.le_trans (len_ren H2.out.1.dir.rises HI1.out) H2.out.1.most)
        exact ⟨rfl, T2, ⟨cv2, _, z1⟩, H2.out.2.trans z2⟩
      | some o =>
        have HO : Hid (look m1.now (ky t) = some o) := hl2
        have HOL : Hid (o < m1.fl.length) := H1.out.1.ids _ (look_some hl2)
        go_wp2_with (at_lookup; refine wpList_look H1.out.1 t HS.out.2 (by rfl) (.tmp 29) (.tmp 30) (by rfl) (by rfl) (by rfl) ?_; rw [hl2]; simp only [pv])
        refine (note_any ⟨cv, D, H1.out.1⟩ ⟨s, some i, t, some o⟩ ⟨(fun j e => by cases e; exact HLT.out), (fun j e => by cases e; exact HOL.out)⟩ (by rw [HSM.out.2.2]; exact hch) HS.out).mono ?_
        rintro e w2 ⟨rfl, T2, ⟨cv2, D2, h2⟩, g2⟩
        have H2 : Hid (Pdi T2 w2 d mb fb (m1.note ⟨s, some i, t, some o⟩) cv2 D2 ∧ Goes T T2 w w2) := ⟨h2, H1.out.2.trans g2⟩
        obtain ⟨f, hf⟩ : ∃ f, m1.fl[o]? = some f := ⟨_, List.getElem?_eq_getElem HOL.out⟩
        obtain ⟨a, c, hfa⟩ := h2.file o f hf
        have cf0 := (hfa.fld.2 0 (by omega)).1
        have c5 := (h2.top.1.2 5 (by omega)).1
        have f5 := (h2.top.1.2 5 (by omega)).2
        simp only [fcell, if_true, Top.cell] at cf0 c5
        have hue : (m1.note ⟨s, some i, t, some o⟩).used = m.used := by show usedOf m1.fl m1.now = usedOf m.fl m.now; rw [HSM.out.1, HSM.out.2.1]
        rw [hue] at c5
        have hsub := usedOf_ren (fl := m1.fl) H1.out.1.dir.rises HI1.out (ky_ne HST.out)
        rw [hl2] at hsub
        simp only [lenOf_some hf] at hsub
        have HSUB : Hid (usedOf m1.fl (ins (del m1.now (ky s)) (ky t) i) + f.data.length = m.used) := by show _ = _; rw [hsub]; exact hue
        have hlu : f.data.length ≤ m.used := by have := HSUB.out; omega
        have hsi : (m.used : Int) - (f.data.length : Int) = ((m.used - f.data.length : Nat) : Int) := by omega
        have hdm2 : d ≠ mb := by rintro rfl; have h1 := h2.td; have h2 := h2.tm; omega
        clear h2 g2 hf hfa hue hsub c6 hl2
        go_wp2
        go_region
        have k3 : Keep [d] w2 (w2.setCell ⟨d, 5, none⟩ (.int .i64 ((m.used - f.data.length : Nat) : Int))).drew := (Keep.set _ _ _ _).trans (Keep.drew _ _)
        have t3 : IsTop (w2.setCell ⟨d, 5, none⟩ (.int .i64 ((m.used - f.data.length : Nat) : Int))).drew d ⟨m1.rig, m1.room, usedOf m1.fl (ins (del m1.now (ky s)) (ky t) i), .map (some mb), cv2, m1.down⟩ := by
          have e : m.used - f.data.length = usedOf m1.fl (ins (del m1.now (ky s)) (ky t) i) := by have := HSUB.out; omega
          refine ⟨Fld.keep (((H2.out.1.top.1.set 5 (by omega) _).eq (nine rfl rfl rfl rfl rfl ?_ rfl rfl rfl))) (Keep.drew [] _) (by simp), H2.out.1.top.2⟩
          rw [upd_same, e]; rfl
        have o3 : (w2.setCell ⟨d, 5, none⟩ (.int .i64 ((m.used - f.data.length : Nat) : Int))).drew.ownsMap Try.prog 9 ptrR mb (m1.note ⟨s, some i, t, some o⟩).now.length D2 := by
          obtain ⟨es, clock, z1, z2⟩ := H2.out.1.map
          exact ⟨es, clock, (k3.block mb H2.out.1.map.lt (by simp; exact Ne.symm hdm2)).trans z1, z2⟩
        have H3 : Hid (Keep [d] w2 (w2.setCell ⟨d, 5, none⟩ (.int .i64 ((m.used - f.data.length : Nat) : Int))).drew ∧ IsTop (w2.setCell ⟨d, 5, none⟩ (.int .i64 ((m.used - f.data.length : Nat) : Int))).drew d ⟨m1.rig, m1.room, usedOf m1.fl (ins (del m1.now (ky s)) (ky t) i), .map (some mb), cv2, m1.down⟩ ∧ (w2.setCell ⟨d, 5, none⟩ (.int .i64 ((m.used - f.data.length : Nat) : Int))).drew.ownsMap Try.prog 9 ptrR mb (m1.note ⟨s, some i, t, some o⟩).now.length D2) := ⟨k3, t3, o3⟩
        clear k3 t3 o3 cf0 c5 f5 hsi hdm2
        generalize (w2.setCell ⟨d, 5, none⟩ (.int .i64 ((m.used - f.data.length : Nat) : Int))).drew = w3 at *
        have hdm : d ≠ mb := by rintro rfl; have h1 := H2.out.1.td; have h2 := H2.out.1.tm; omega
        have HDM : Hid (d ≠ mb) := hdm
        clear hdm
        have HMX : Hid ((m1.note ⟨s, some i, t, some o⟩).now.length < maxLen) := by
          have := H2.out.1.most
          show _ < _
          unfold maxLen; omega
        have c63 := (H3.out.2.1.1.2 6 (by omega)).1
        simp only [Top.cell] at c63
        go_wp2_with (first
          | (at_mapUpdate; refine wpList_mapUpdate_own _ (by rfl) (.tmp 56) (.tmp 57) (.tmp 58) 82 (by rfl) 9 87 keyed Try.underlying82 ptrR mb _ D2 (by rfl) H3.out.2.2 HMX.out _ _ (.string (ky t)) (by rfl) (by rfl) (keyOf_s t HS.out.2) (.held (some ⟨fb i, 0, none⟩)) [] (by rfl) ?_; intro w4 ho4 hg4; have H4 : Hid (w4.ownsMap Try.prog 9 ptrR mb _ (D2.put (.string (ky t)) (.held (some ⟨fb i, 0, none⟩))) ∧ Keep [mb] w3 w4) := ⟨ho4, Keep.grown hg4⟩; have c64 := ((H3.out.2.1.keep H4.out.2 (by simp; exact HDM.out)).1.2 6 (by omega)).1; simp only [Top.cell] at c64; clear ho4 hg4)
          | (at_delete; refine wpList_delete_own _ (by rfl) (.tmp 62) (.tmp 63) 82 9 (by rfl) 87 keyed Try.underlying82 ptrR mb _ _ (by rfl) H4.out.1 _ (.string (ky s)) (by rfl) (keyOf_s s HS.out.1) ?_; intro w5 ho5 ht5; have H5 : Hid (w5.ownsMap Try.prog 9 ptrR mb _ ((D2.put (.string (ky t)) (.held (some ⟨fb i, 0, none⟩))).del (.string (ky s))) ∧ Keep [mb] w4 w5) := ⟨ho5, Keep.grown ht5.grown⟩; clear ho5 ht5))
        go_ret
        have e : m.rename s t = (0, { m1.note ⟨s, some i, t, some o⟩ with now := ins (del m1.now (ky s)) (ky t) i }) := by
          have e1 := HSM.out.1
          have e2 := HO.out
          rw [HM1.out] at e1 e2 ⊢
          unfold Dm.rename
          rw [if_pos ⟨HEC.out.symm, HST.out⟩, HI.out]
          simp only
          rw [← e1, e2]
        rw [e]
        have hdd := (H2.out.1.dir.put (ky t) i).del (ky s)
        rw [del_ins H2.out.1.dir.rises (ky_ne HST.out)] at hdd
        obtain ⟨z1, z2⟩ := H2.out.1.redir (w' := w5) (now' := ins (del m1.now (ky s)) (ky t) i) (((H3.out.1.mono (by simp)).trans (H4.out.2.mono (by simp))).trans (H5.out.2.mono (by simp))) ((H3.out.2.1.keep H4.out.2 (by simp; exact HDM.out)).keep H5.out.2 (by simp; exact HDM.out)) H5.out.1 hdd (fun p hp => by
          rcases ins_mem hp with rfl | hp
          · exact HLT.out
          · exact H2.out.1.ids p (mem_del hp)) (ids_ren H2.out.1.dir.rises HI1.out H2.out.1.apart) (Nat.le_trans (len_ren H2.out.1.dir.rises HI1.out) H2.out.1.most)
        exact ⟨rfl, T2, ⟨cv2, _, z1⟩, H2.out.2.trans z2⟩
  · have he0 : (ec != 0) = true := by simp [he]
    rw [reachV_no fb he]
    clear hm1 h1 g1 hec
    go_wp2
    go_ret
    have e := DONE.out (fun h => he h.1)
    rw [e]
    exact ⟨rfl, T, ⟨cv, D, H1.out.1⟩, H1.out.2⟩
end Dsk
end Go.Proofs.Ytbloifnibgdeoaa
namespace Go.Proofs.Ytbloifnibgdeoaa
namespace Dsk
open Go.RowKit Go.Maps Go.Sort Byt Laws
set_option linter.unusedVariables false
set_option maxRecDepth 100000
/-- one name more has been counted -/
theorem used_step {fl : List Fl} : ∀ {l : List (Key × Nat)} {p : Key × Nat} {q q' : Key → Bool}, Rises l → p ∈ l → q p.1 = false → (∀ x, q' x = (q x || decide (x = p.1))) → usedOf fl (l.filter fun y => q' y.1) = usedOf fl (l.filter fun y => q y.1) + lenOf fl p.2
  | y :: r, p, q, q', hr, hp, hq, hq' => by
    have hr' := List.pairwise_cons.1 hr
    by_cases e : y = p
    · subst e
      have h1 : q' y.1 = true := by rw [hq']; simp
      have h2 : (r.filter fun y => q' y.1) = r.filter fun y => q y.1 := List.filter_congr fun z hz => by
        rw [hq']
        have : z.1 ≠ y.1 := fun e => key_irrefl y.1 (by have := hr'.1 z hz; rwa [e] at this)
        simp [this]
      have e1 : ((y :: r).filter fun y => q' y.1) = y :: (r.filter fun y => q' y.1) := by rw [List.filter_cons, if_pos h1]
      have e2 : ((y :: r).filter fun y => q y.1) = r.filter fun y => q y.1 := by rw [List.filter_cons, if_neg (by rw [hq]; simp)]
      rw [e1, e2, h2]
      unfold usedOf
      rw [List.map_cons, List.sum_cons]
      exact Nat.add_comm _ _
    · have hp' : p ∈ r := by
        rcases List.mem_cons.1 hp with h | h
        · exact absurd h.symm e
        · exact h
      have hne : y.1 ≠ p.1 := fun e => key_irrefl y.1 (by have := hr'.1 p hp'; rwa [← e] at this)
      have hy : q' y.1 = q y.1 := by rw [hq']; simp [hne]
      have ih := used_step (fl := fl) hr'.2 hp' hq hq'
      unfold usedOf at ih ⊢
      by_cases hb : q y.1 = true
      · have e1 : ((y :: r).filter fun y => q' y.1) = y :: (r.filter fun y => q' y.1) := by rw [List.filter_cons, if_pos (by rw [hy]; exact hb)]
        have e2 : ((y :: r).filter fun y => q y.1) = y :: (r.filter fun y => q y.1) := by rw [List.filter_cons, if_pos hb]
        rw [e1, e2, List.map_cons, List.map_cons, List.sum_cons, List.sum_cons, ih]
        omega
      · have e1 : ((y :: r).filter fun y => q' y.1) = r.filter fun y => q' y.1 := by rw [List.filter_cons, if_neg (by rw [hy]; exact hb)]
        have e2 : ((y :: r).filter fun y => q y.1) = r.filter fun y => q y.1 := by rw [List.filter_cons, if_neg hb]
        rw [e1, e2, ih]
theorem used_filter_le (fl : List Fl) (l : List (Key × Nat)) (q : Key × Nat → Bool) : usedOf fl (l.filter q) ≤ usedOf fl l := by
  induction l with
  | nil => simp [usedOf]
  | cons y r ih =>
    unfold usedOf at ih ⊢
    by_cases hb : q y = true
    · rw [List.filter_cons_of_pos hb, List.map_cons, List.map_cons, List.sum_cons, List.sum_cons]; omega
    · rw [List.filter_cons_of_neg hb, List.map_cons, List.sum_cons]; omega
theorem key_dec (a b : Key) : (a == b) = decide (a = b) := by
  by_cases e : a = b
  · subst e; simp
  · simp [e]
theorem key_s {key : Value} {kl : Lit} (h : keyOf Try.prog 9 key = some kl) : ∃ s : ByteArray, key = .string s ∧ kl = .string (ky s) := by
  cases key <;> simp [keyOf, Try.underlying9, mapKey] at h
  obtain ⟨_, rfl⟩ := h
  exact ⟨_, rfl, rfl⟩
/-- what stands while the bytes are counted -/
structure CntS (w : World) (mb r n : Nat) (D : DataW (Option Addr)) (fl : List Fl) (l : List (Key × Nat)) (left : Lit → Bool) (cnt : Nat) (v : Value) (wr : World) : Prop where
  rg : wr.ranges Try.prog 9 ptrR mb r n D left cnt
  sub : ∀ kl, left kl = true → Maps.has D kl = true
  bel : Below w.heap.size w wr
  val : v = .int .i64 (usedOf fl (l.filter fun p => !left (.string p.1)) : Nat)
set_option maxHeartbeats 1000000 in
theorem bytes_any {w : World} {mb n : Nat} {fb : Nat → Nat} {l : List (Key × Nat)} {fl : List Fl} {D : DataW (Option Addr)} (ho : w.ownsMap Try.prog 9 ptrR mb n D) (hd : DirIs D fb l) (hf : ∀ p ∈ l, ∃ f, fl[p.2]? = some f ∧ ∃ a c, Fld 2 w (fb p.2) (fcell a c f)) (hu : usedOf fl l ≤ 9223372036854775807) :
    Calls Try.prog 57 #[.map (some mb)] w fun e w' => e = .returned (.int .i64 (usedOf fl l : Nat)) ∧ Below w.heap.size w w' := by
  obtain ⟨w1, hrg, hr1, hg1, hsz1⟩ := ho.range keyed Try.underlying82
  have hm := ho.lt
  have H1 : Hid (CntS w mb w.heap.size n D fl l (Maps.has D) (Maps.size D) (.int .i64 0) w1) := ⟨hr1, fun _ h => h, ⟨hg1.os, hg1.tape, hg1.output, hg1.size, fun b hb => hg1.block b hb (by simp)⟩, by
    have : l.filter (fun p => !Maps.has D (.string p.1)) = [] := List.filter_eq_nil_iff.2 fun p hp => by rw [hd.has, look_mem hd.rises hp]; simp
    rw [this]; rfl⟩
  have HD : Hid (DirIs D fb l ∧ (∀ p ∈ l, ∃ f, fl[p.2]? = some f ∧ ∃ a c, Fld 2 w (fb p.2) (fcell a c f)) ∧ usedOf fl l ≤ 9223372036854775807) := ⟨hd, hf, hu⟩
  clear hr1 hg1 hsz1 hd hf hu
  go_enter Try.func57, Try.ntmps57
  go_wp2
  go_loopw [3] (fun s w' => ∃ (left : Lit → Bool) (cnt : Nat), Hid (CntS w mb w.heap.size n D fl l left cnt s w')) (fun _ w' => w'.rangeLeft mb w.heap.size)
  case atStart => exact ⟨_, _, H1.out⟩
  case round =>
    clear H1
    obtain ⟨left, cnt, HX⟩ := hrel
    rename World => wr
    have hval := HX.out.val
    subst hval
    rcases HX.out.rg.next keyed 0 with ⟨hc0, hall, hrun⟩ | ⟨key, v, kl, y, w2, cnt2, hk, hlf, hRv, hat, hrun, hr2, hlt2, hg2, hs2, hen⟩
    · have hnx : ∀ ty, (Instr.next (.pointer (some ⟨w.heap.size, 0, none⟩)) false ty).run Try.prog wr = _ := fun _ => hrun
      have HE : Hid (usedOf fl (l.filter fun p => !left (.string p.1)) = usedOf fl l) := by
        show _ = _
        have : l.filter (fun p => !left (.string p.1)) = l := List.filter_eq_self.2 fun p _ => by rw [hall]; rfl
        rw [this]
      clear hall hrun
      go_wp2
      go_ret
      exact ⟨by rw [HE.out]; rfl, HX.out.bel⟩
    · obtain ⟨s, hs, rfl⟩ := key_s hk
      subst hs
      have hlk := HX.out.sub _ hlf
      rw [HD.out.1.has] at hlk
      obtain ⟨i, hi⟩ := Option.isSome_iff_exists.1 hlk
      have hy : y.1 = .held (some ⟨fb i, 0, none⟩) := by rw [← hat (.held none), HD.out.1.at_, hi]; rfl
      have hv : v = .pointer (some ⟨fb i, 0, none⟩) := ptrR_inv (show ptrR v = some (.held (some ⟨fb i, 0, none⟩), y.2) by rw [← hy]; exact hRv)
      subst hv
      have hin := look_some hi
      obtain ⟨f, hfl, a, c, hfd⟩ := HD.out.2.1 _ hin
      have hb2 : Below w.heap.size w w2 := HX.out.bel.grown hg2 HX.out.bel.size (by intro k hk; cases hk; exact Nat.le_refl _)
      have hfd2 := hfd.keep (Keep.below (bs := []) hb2) (by simp)
      have hu := used_step (fl := fl) (q := fun x => !left (.string x)) (q' := fun x => !(left (.string x) && !(Lit.string x).sameKey (.string (ky s)))) HD.out.1.rises hin (by simp [hlf]) (fun x => by
        have : (Lit.string x).sameKey (.string (ky s)) = decide (x = ky s) := by simp [Lit.sameKey]; exact key_dec x (ky s)
        rw [this]; cases left (.string x) <;> cases decide (x = ky s) <;> rfl)
      have hlen : lenOf fl i = f.data.length := by unfold lenOf; rw [hfl]; rfl
      have hle := used_filter_le fl l (fun p => !(left (.string p.1) && !(Lit.string p.1).sameKey (.string (ky s))))
      have hmax := HD.out.2.2
      have HN : Hid (CntS w mb w.heap.size n D fl l (fun x => left x && !x.sameKey (.string (ky s))) cnt2 (.int .i64 (usedOf fl (l.filter fun p => !(left (.string p.1) && !(Lit.string p.1).sameKey (.string (ky s)))) : Nat)) w2 ∧ cnt2 < cnt ∧ wr.rangeLeft mb w.heap.size = cnt) := ⟨⟨hr2, fun k hk => HX.out.sub k (by simp at hk; exact hk.1), hb2, rfl⟩, hlt2, HX.out.rg.left_eq⟩
      have hnx : ∀ ty, (Instr.next (.pointer (some ⟨w.heap.size, 0, none⟩)) false ty).run Try.prog wr = _ := fun _ => hrun
      have hc0 := (hfd2.2 0 (by omega)).1
      simp only [fcell, if_true] at hc0
      have HS : Hid ((usedOf fl (l.filter fun p => !left (.string p.1)) : Int) + (f.data.length : Int) = (usedOf fl (l.filter fun p => !(left (.string p.1) && !(Lit.string p.1).sameKey (.string (ky s)))) : Nat)) := by
        show _ = _
        rw [hu, ← hlen]; rfl
      have HLE : Hid (usedOf fl (l.filter fun p => !(left (.string p.1) && !(Lit.string p.1).sameKey (.string (ky s)))) ≤ usedOf fl l) := hle
      clear hu hle hmax hlen hi hin hfl hfd
      clear hr2 hlt2 hg2 hs2 hat hRv hrun hb2 hlk hy
      go_wp2
      go_roundw
      case rel =>
        have hb : wrap64 ((usedOf fl (l.filter fun p => !left (.string p.1)) : Int) + (f.data.length : Int)) = (usedOf fl (l.filter fun p => !(left (.string p.1) && !(Lit.string p.1).sameKey (.string (ky s)))) : Nat) := by
          rw [HS.out]
          have h1 := HLE.out
          have h2 := HD.out.2.2
          unfold wrap64; omega
        rw [hb]
        exact ⟨_, _, HN.out.1⟩
      case measure => rw [HN.out.2.2, HN.out.1.rg.left_eq]; exact HN.out.2.1
end Dsk
end Go.Proofs.Ytbloifnibgdeoaa
namespace Go.Proofs.Ytbloifnibgdeoaa
namespace Dsk
open Go.RowKit Go.Shelf Go.Maps Go.Sort Byt Laws
set_option linter.unusedVariables false
set_option maxRecDepth 100000
attribute [local go_sem ↓] Go.wp_at_zero Go.wp_at_succ

/-- A file's bytes after a fall that leaves so many of those that aren't sure. -/
def cutF (fl : List Fl) (i : Nat) (o : Int) : List Fl := match fl[i]? with
  | some f => fl.set i ⟨f.data.take (leftN f.data.length f.sure o), leftN f.data.length f.sure o⟩
  | none => fl
/-- The first k names' files have been cut. -/
def fallF (ks : List Int) (l : List (Key × Nat)) (fl : List Fl) : Nat → List Fl
  | 0 => fl
  | k + 1 => match l[k]? with
    | some p => cutF (fallF ks l fl k) p.2 (amongN ks k)
    | none => fallF ks l fl k
/-- P3.6, P3.7: Fall. -/
def Dm.fall (m : Dm) (dir : Int) (ks : List Int) : Dm := ⟨Rig.zero, m.room, fallF ks (m.dirAt dir) m.fl (m.dirAt dir).length, m.dirAt dir, [], false⟩
theorem cutF_length (fl : List Fl) (i : Nat) (o : Int) : (cutF fl i o).length = fl.length := by
  unfold cutF
  split
  · rw [List.length_set]
  · rfl
theorem fallF_length (ks : List Int) (l : List (Key × Nat)) (fl : List Fl) : ∀ k, (fallF ks l fl k).length = fl.length
  | 0 => rfl
  | k + 1 => by
    unfold fallF
    split
    · rw [cutF_length, fallF_length]
    · exact fallF_length ks l fl k
theorem usedOf_le {fl : List Fl} {B : Nat} : ∀ {l : List (Key × Nat)}, (∀ p ∈ l, lenOf fl p.2 ≤ B) → usedOf fl l ≤ l.length * B
  | [], _ => by simp [usedOf]
  | p :: r, h => by
    have ih := usedOf_le (fl := fl) (B := B) (l := r) (fun q hq => h q (by simp [hq]))
    have h1 := h p (by simp)
    unfold usedOf at ih ⊢
    rw [List.map_cons, List.sum_cons, List.length_cons, Nat.succ_mul]
    omega
/-- A file's cells turn, whatever is told of the bytes of all. -/
theorem Pdu.setFile {T : Nat → Nat} {w w' : World} {d mb : Nat} {fb : Nat → Nat} {m : Dm} {cv : Value} {D : DataW (Option Addr)} {u : Nat} (h : Pdu T w d mb fb m cv D u) {i : Nat} {f f' : Fl} (hf : m.fl[i]? = some f) (hk : Keep [fb i] w w') {a' : Option Addr} {c' : Nat}
    (hfa : FileAt T w' (fb i) i f' a' c') : Pdu T w' d mb fb { m with fl := m.fl.set i f' } cv D u := by
  have hi : i < m.fl.length := (List.getElem?_eq_some_iff.1 hf).1
  have htf := hfa.tag
  refine { h with top := ?_, fresh := fun b hb => h.fresh b (Nat.le_trans hk.size hb), chg := hk.own h.chg ?_, map := ?_, file := fun j g hj => ?_, ids := ?_, cids := ?_ }
  · refine h.top.keep hk ?_
    simp; intro e; have := h.td; rw [e, htf] at this; omega
  · intro g hg hm
    have := h.tc g hg
    simp at hm; rw [hm, htf] at this; omega
  · obtain ⟨es, clock, h1, h2⟩ := h.map
    refine ⟨es, clock, (hk.block mb h.map.lt ?_).trans h1, h2⟩
    simp; intro e; have := h.tm; rw [e, htf] at this; omega
  · by_cases e : j = i
    · subst e
      have : g = f' := by
        have hj' : (m.fl.set j f')[j]? = some g := hj
        rw [List.getElem?_set_self hi] at hj'; exact (Option.some.inj hj').symm
      subst this
      exact ⟨a', c', hfa⟩
    · have hj' : m.fl[j]? = some g := by
        have hj' : (m.fl.set i f')[j]? = some g := hj
        rwa [List.getElem?_set_ne (Ne.symm e)] at hj'
      obtain ⟨a2, c2, hfj⟩ := h.file j g hj'
      exact ⟨a2, c2, hfj.keep hk (by intro x hx; simp at hx; subst hx; omega) (by intro x hx; simp at hx; subst hx; omega)⟩
  · intro p hp
    show p.2 < (m.fl.set i f').length
    rw [List.length_set]; exact h.ids p hp
  · intro c hc
    show (∀ j, _ → j < (m.fl.set i f').length) ∧ (∀ j, _ → j < (m.fl.set i f').length)
    rw [List.length_set]; exact h.cids c hc
/-- The names have been taken back; the files still are as they were. -/
theorem Pdu.back {T : Nat → Nat} {w w' : World} {d mb : Nat} {fb : Nat → Nat} {m : Dm} {cv : Value} {D D' : DataW (Option Addr)} {u n' : Nat} (h : Pdu T w d mb fb m cv D u) (hk : Keep [mb] w w') (ho : w'.ownsMap Try.prog 9 ptrR mb n' D') {l : List (Key × Nat)} (hd : DirIs D' fb l) (hi : ∀ p ∈ l, p.2 < m.fl.length) (hn : (l.map (·.2)).Nodup) (hl : l.length ≤ 1073741824) : Pdu T w' d mb fb { m with now := l } cv D' u := by
  have htm := h.tm
  refine { h with top := h.top.keep hk ?_, fresh := fun b hb => h.fresh b (Nat.le_trans hk.size hb), chg := hk.own h.chg ?_, map := tight ho (size_dir hd ho keyed Try.underlying9), dir := hd, file := fun j g hj => ?_, ids := hi, apart := hn, most := hl }
  · simp; intro e; have := h.td; rw [e] at this; omega
  · intro g hg hm
    have := h.tc g hg
    simp at hm; rw [hm] at this; omega
  · obtain ⟨a, c, hf⟩ := h.file j g hj
    exact ⟨a, c, hf.keep hk (by intro x hx; simp at hx; subst hx; omega) (by intro x hx; simp at hx; subst hx; omega)⟩
theorem IntsAt.goes {T T' : Nat → Nat} {w w' : World} {a : Option Addr} {ks : List Int} (h : IntsAt w a ks) (ho : ∀ ad, a = some ad → T ad.block = 0) (g : Goes T T' w w') : IntsAt w' a ks := fun j x hx => by
  obtain ⟨b, off, e, hc⟩ := h j x hx
  refine ⟨b, off, e, ?_⟩
  have hlt := World.block_lt_of_cell? w _ hc
  have hb := (g.block b hlt (ho _ e)).1
  unfold World.cell? at hc ⊢
  rw [hb]; exact hc
/-- Bytes that a fall has cut: a list that is full. -/
theorem Hb.cut {w : World} {a : Option Addr} {c : Nat} {l : List Nat} (h : Hb w a c l) {n : Nat} (hn : n ≤ l.length) : Hb w a (l.take n).length (l.take n) := by
  have hl : (l.take n).length = n := by rw [List.length_take]; omega
  refine ⟨h.isB.take n, Nat.le_refl _, fun e => ?_, by have := h.le; have := h.max; omega, fun g hg => ?_, ?_⟩
  · have z := h.isB
    rw [e] at z
    have z2 := z.none
    rw [z2]; simp
  · cases a with
    | none => cases hg
    | some ad => cases hg; exact h.lt _ rfl
  · rcases h.own with ⟨hg, _⟩ | ho
    · exact .inl ⟨hg, rfl⟩
    · rcases ho.2 with ⟨e, e0⟩ | ⟨g, cap, cur, e, _⟩
      · obtain ⟨rfl, hl0, rfl⟩ := Value.slice.inj e
        have : l = [] := List.eq_nil_of_length_eq_zero hl0
        subst this
        refine .inr ?_
        have e2 : ([] : List Nat).take n = [] := by simp
        rw [e2]
        exact ⟨rfl, .inl ⟨rfl, rfl⟩⟩
      · obtain ⟨rfl, _, _⟩ := Value.slice.inj e
        exact .inl ⟨⟨g, rfl⟩, rfl⟩
theorem FileAt.cut {T : Nat → Nat} {w w' : World} {b i : Nat} {f : Fl} {a : Option Addr} {c n : Nat} {dd : List Nat} (h : FileAt T w b i f a c) (hk : Keep [b] w w') (hn : n ≤ f.data.length) (hd : dd = f.data.take n) (hf : Fld 2 w' b (fcell a dd.length ⟨dd, dd.length⟩)) : FileAt T w' b i ⟨dd, dd.length⟩ a dd.length := by
  subst hd
  refine ⟨h.tag, hf, (h.own.cut hn).keep hk ?_, h.mine, Nat.le_refl _, ?_⟩
  · intro g hg hm
    simp at hm
    cases a with
    | none => cases hg
    | some ad =>
      cases hg
      have h1 := h.mine ad rfl
      have h2 := h.tag
      rw [hm] at h1; omega
  · have := h.big
    have e : (f.data.take n).length = n := by rw [List.length_take]; omega
    show (f.data.take n).length ≤ _
    omega
/-- The machine has come up. -/
theorem Pdu.fell {T : Nat → Nat} {w w' : World} {d mb : Nat} {fb : Nat → Nat} {m : Dm} {cv : Value} {D : DataW (Option Addr)} {u : Nat} (h : Pdu T w d mb fb m cv D u) (hk : Keep [d] w w') (ht : IsTop w' d ⟨Rig.zero, m.room, usedOf m.fl m.now, .map (some mb), .slice none 0 0, false⟩) :
    Pdi T w' d mb fb ⟨Rig.zero, m.room, m.fl, m.now, [], false⟩ (.slice none 0 0) D := by
  have hd := h.td
  refine ⟨ht, h.td, h.tm, fun b hb => h.fresh b (Nat.le_trans hk.size hb), ⟨rfl, .inl ⟨rfl, rfl⟩⟩, (by intro b hb; cases hb), ?_, h.dir, fun j g hj => ?_, h.ids, h.apart, by simp, h.room, h.most, by simp⟩
  · obtain ⟨es, clock, h1, h2⟩ := h.map
    refine ⟨es, clock, (hk.block mb h.map.lt ?_).trans h1, h2⟩
    simp; intro e; have := h.tm; rw [e] at this; omega
  · obtain ⟨a, c, hf⟩ := h.file j g hj
    exact ⟨a, c, hf.keep hk (by intro x hx; simp at hx; subst hx; omega) (by intro x hx; simp at hx; subst hx; omega)⟩
theorem fld_fell {w : World} {d : Nat} {t : Top} (h : Fld 9 w d t.cell) (u : Nat) : Fld 9 (((((((w.setCell ⟨d, 5, none⟩ (.int .i64 (u : Nat))).setCell ⟨d, 7, none⟩ (.slice none 0 0)).setCell ⟨d, 8, none⟩ (.bool false)).setCell ⟨d, 0, none⟩ (.int .i64 0)).setCell ⟨d, 1, none⟩ (.int .i64 0)).setCell ⟨d, 2, none⟩ (.int .i64 0)).setCell ⟨d, 3, none⟩ (.int .i64 0)) d (Top.cell ⟨Rig.zero, t.room, u, t.files, .slice none 0 0, false⟩) :=
  (((((((h.set 5 (by omega) _).set 7 (by omega) _).set 8 (by omega) _).set 0 (by omega) _).set 1 (by omega) _).set 2 (by omega) _).set 3 (by omega) _).eq (nine rfl rfl rfl rfl rfl rfl rfl rfl rfl)
theorem keep_fell (w : World) (d u : Nat) : Keep [d] w (((((((w.setCell ⟨d, 5, none⟩ (.int .i64 (u : Nat))).setCell ⟨d, 7, none⟩ (.slice none 0 0)).setCell ⟨d, 8, none⟩ (.bool false)).setCell ⟨d, 0, none⟩ (.int .i64 0)).setCell ⟨d, 1, none⟩ (.int .i64 0)).setCell ⟨d, 2, none⟩ (.int .i64 0)).setCell ⟨d, 3, none⟩ (.int .i64 0)) :=
  (Keep.set _ _ _ _).trans ((Keep.set _ _ _ _).trans ((Keep.set _ _ _ _).trans ((Keep.set _ _ _ _).trans ((Keep.set _ _ _ _).trans ((Keep.set _ _ _ _).trans (Keep.set _ _ _ _))))))
set_option maxHeartbeats 4000000 in
theorem fall_any {T : Nat → Nat} {w : World} {d mb : Nat} {fb : Nat → Nat} {m : Dm} (h : Pd T w d mb fb m) (dir : Int) (ak : Option Addr) (ck : Nat) (ks : List Int) (hk : IntsAt w ak ks) (hko : ∀ ad, ak = some ad → T ad.block = 0) (hck : ks.length ≤ ck) (hck2 : ck ≤ 9223372036854775807) (hkw : ∀ x ∈ ks, x ≤ 9223372036854775807) (hnd : ((m.dirAt dir).map (·.2)).Nodup) (hm : m.now.length ≤ 500000000) (hch : m.ch.length ≤ 1000000) :
    Calls Try.prog 21 #[.pointer (some ⟨d, 0, none⟩), .int .i64 dir, .slice ak ks.length ck] w fun e w' => e = .returned (.tuple #[]) ∧ Pd T w' d mb fb (m.fall dir ks) ∧ Goes T T w w' := by
  obtain ⟨cv, D, h⟩ := h
  have HH : Hid (Pdi T w d mb fb m cv D) := h
  have HIK : Hid (IntsAt w ak ks) := hk
  have HKO : Hid (∀ ad, ak = some ad → T ad.block = 0) := hko
  have HKW : Hid (∀ x ∈ ks, x ≤ 9223372036854775807) := hkw
  have HND : Hid (((m.dirAt dir).map (·.2)).Nodup) := hnd
  have c6 := (h.top.1.2 6 (by omega)).1
  simp only [Top.cell] at c6
  have HL : Hid ((m.dirAt dir).length ≤ m.now.length + 2 * m.ch.length) := dirAt_len m dir
  have HDM : Hid (d ≠ mb) := by
    show d ≠ mb
    rintro rfl; have h1 := h.td; have h2 := h.tm; omega
  obtain ⟨L, hL⟩ : ∃ L : Nat, (m.dirAt dir).length = L := ⟨_, rfl⟩
  have HLL : Hid ((m.dirAt dir).length = L) := hL
  have hmost : L ≤ 502000000 := by have := HL.out; omega
  clear hL
  clear h hk hkw hko hnd
  go_enter Try.func21, Try.ntmps21
  go_upto_region 0 with fail
  go_cut [16] (fun _ wx => ∃ D3, Hid (Pdu T wx d mb fb { m with now := m.dirAt dir } cv D3 m.used ∧ Goes T T w wx))
  case first =>
    go_region_law (first
      | (go_simp; go_at_call 53; refine (lost_any (w := w.drew) (HH.out.below (Below.refl _ _).drew) dir).mono ?_; rintro e w2 ⟨v2, rfl, hw2, hlo⟩; subst hw2; obtain ⟨b, ps, l1, l2, l3, l4, l5⟩ := hlo)
      | ((try go_simp); go_at_call 52; refine (undo_any (w := w.drew.drew) (by obtain ⟨es, clock, z1, z2⟩ := HH.out.map; exact ⟨es, clock, z1, z2⟩) HH.out.dir v2 ps l3 b (by rcases l4 with rfl | l4; exact HH.out.top.1.1; exact (HH.out.chg.lt b l4).2) (by rcases l4 with rfl | l4; exact HDM.out; (intro e; have z1 := HH.out.tc b l4; have z2 := HH.out.tm; rw [e] at z1; omega)) (by omega) l5 (by omega)).mono ?_; rintro e w3 ⟨rfl, ⟨n3, D3, ho3, hd3⟩, hk3⟩; have hd3' : DirIs D3 fb (m.dirAt dir) := (by rw [undoAll_map, List.map_reverse, l1] at hd3; exact hd3); have H3 : Hid (Pdu T w3 d mb fb { m with now := m.dirAt dir } cv D3 m.used ∧ Goes T T w w3) := ⟨HH.out.back (((Keep.drew _ w).trans (Keep.drew _ w.drew)).trans hk3) ho3 hd3' (HH.out.dirIds dir) HND.out (by have := HL.out; omega), Goes.keep (((Keep.drew _ w).trans (Keep.drew _ w.drew)).trans hk3) (by intro b hb _; simp at hb; subst hb; rw [HH.out.tm]; omega)⟩; clear l1 l2 l3 l4 l5 ho3 hd3 hd3' hk3))
    all_goals
      go_wp2_with fail
      go_meet
      exact ⟨_, H3⟩
  case rest =>
  obtain ⟨D3, H3⟩ := hcut
  rename World => w3
  have c63 := (H3.out.1.top.1.2 6 (by omega)).1
  simp only [Top.cell] at c63
  go_wp2_with fail
  refine (names_dir (w := w3) H3.out.1.map H3.out.1.dir (by rw [HLL.out]; omega)).mono ?_
  rintro e w5 ⟨v5, rfl, ho5, hb5⟩
  rw [HLL.out] at ho5
  obtain ⟨a5, c5, rfl⟩ := own_slice ho5
  have H5 : Hid (w5.ownsRow w3.heap.size 9 1 (.slice a5 L c5) L (((m.dirAt dir).map (·.1)).map encStr) ∧ Below w3.heap.size w3 w5) := ⟨ho5, hb5⟩
  clear ho5 hb5 c63
  go_wp2
  go_loopw [6, 7, 8, 23, 24, 25, 26, 27, 28, 29, 30, 31, 32, 33, 34, 35, 36, 37, 38, 39, 40, 41, 42, 43, 44, 45, 46, 47, 48, 49, 50] (fun _ _ _ i _ _ _ _ _ _ _ _ _ _ _ _ _ _ _ _ _ _ _ _ _ _ _ _ _ _ _ wr => ∃ k : Nat, i = .int .i64 k ∧ k ≤ L ∧ Hid (Pdu T wr d mb fb { m with now := m.dirAt dir, fl := fallF ks (m.dirAt dir) m.fl k } cv D3 m.used ∧ Goes T T w wr ∧ wr.ownsRow w3.heap.size 9 1 (.slice a5 L c5) L (((m.dirAt dir).map (·.1)).map encStr) ∧ w3.heap.size ≤ wr.heap.size)) (fun _ _ _ i _ _ _ _ _ _ _ _ _ _ _ _ _ _ _ _ _ _ _ _ _ _ _ _ _ _ _ _ => L - (intOf i).toNat)
  case atStart =>
    exact ⟨0, rfl, Nat.zero_le _, (H3.out.1.below H5.out.2), H3.out.2.trans (Goes.below H5.out.2), H5.out.1, H5.out.2.size⟩
  case round =>
    rename World => W
    obtain ⟨k, rfl, hk, HW⟩ := hrel
    by_cases hlt : k < L
    · have hlt' : (k : Int) < (L : Int) := by omega
      obtain ⟨p, hp⟩ : ∃ p, (m.dirAt dir)[k]? = some p := ⟨_, List.getElem?_eq_getElem (by rw [HLL.out]; exact hlt)⟩
      obtain ⟨g, c, e, hc1, hc2, hg1, hg2, hcell⟩ := names_cell HW.out.2.2.1 hp
      obtain ⟨rfl, _, rfl⟩ := Value.slice.inj e
      have hpm : p ∈ m.dirAt dir := List.mem_of_getElem? hp
      have hsz : (ba p.1).size ≤ maxLen := by rw [ba_size]; exact names_len HW.out.1.map HW.out.1.dir p hpm
      have hlk : (Instr.lookup 82 (.map (some mb)) (.string (ba p.1)) false).run Try.prog W = .ok (.pointer (some ⟨fb p.2, 0, none⟩)) W := by
        have z := look_run HW.out.1.map HW.out.1.dir (ba p.1) hsz
        have z2 : look (m.dirAt dir) (ky (ba p.1)) = some p.2 := by rw [ky_ba]; exact look_mem HW.out.1.dir.rises hpm
        simp only [z2, pv] at z
        exact z
      obtain ⟨fk, hfk⟩ : ∃ fk, fk = fallF ks (m.dirAt dir) m.fl k := ⟨_, rfl⟩
      have HFK : Hid (fk = fallF ks (m.dirAt dir) m.fl k) := hfk
      have HX : Hid (Pdu T W d mb fb { m with now := m.dirAt dir, fl := fk } cv D3 m.used) := by rw [hfk]; exact HW.out.1
      obtain ⟨f, hf⟩ : ∃ f, fk[p.2]? = some f := ⟨_, List.getElem?_eq_getElem (HX.out.ids p hpm)⟩
      obtain ⟨a, cc, hfi⟩ := HX.out.file p.2 f hf
      have HFI : Hid (FileAt T W (fb p.2) p.2 f a cc ∧ fk[p.2]? = some f) := ⟨hfi, hf⟩
      have hE := leftN_le hfi.sure (amongN ks k)
      have hES : f.sure ≤ leftN f.data.length f.sure (amongN ks k) := by unfold leftN; omega
      obtain ⟨dd, hdd⟩ : ∃ dd, dd = f.data.take (leftN f.data.length f.sure (amongN ks k)) := ⟨_, rfl⟩
      have hddl : dd.length = leftN f.data.length f.sure (amongN ks k) := by rw [hdd, List.length_take]; omega
      have HDD : Hid (dd = f.data.take (leftN f.data.length f.sure (amongN ks k)) ∧ dd.length = leftN f.data.length f.sure (amongN ks k)) := ⟨hdd, hddl⟩
      have HNX : Hid (fallF ks (m.dirAt dir) m.fl (k + 1) = fk.set p.2 ⟨dd, dd.length⟩) := by
        show _ = _
        simp only [fallF, hp]
        rw [← hfk, cutF, hf]
        simp only
        rw [← hdd, ← hddl]
      have HIW : Hid (IntsAt W ak ks) := HIK.out.goes HKO.out HW.out.2.1
      have hal := among_le HKW.out k
      have hkb : k ≤ 9223372036854775807 := by omega
      have hdb : dd.length ≤ 2147483648 := by rw [hddl]; have := hfi.big; omega
      have c6 := (HX.out.top.1.2 6 (by omega)).1
      simp only [Top.cell] at c6
      have f0 := (hfi.fld.2 0 (by omega)).2
      have f1 := (hfi.fld.2 1 (by omega)).2
      have cf0 := (hfi.fld.2 0 (by omega)).1
      have cf1 := (hfi.fld.2 1 (by omega)).1
      simp only [fcell, if_true, Nat.one_ne_zero, if_false] at cf0 cf1
      have HPM : Hid (p.2 < m.fl.length) := HX.out.ids p hpm |> fun z => by have z2 : p.2 < fk.length := z; rw [hfk, fallF_length] at z2; exact z2
      have HLE : Hid (leftN f.data.length f.sure (amongN ks k) ≤ f.data.length) := hE
      generalize ba p.1 = nm at *
      have HSS : Hid (f.sure ≤ dd.length) := by show _ ≤ _; rw [hddl]; exact hES
      clear hpm hf hfi hsz e hp hg1 hg2 hdd hddl hE hES hfk
      go_wp2_with (first
        | (go_at_call 55; refine (among_any (w := W) HIW.out rfl hck hck2 k hkb).mono ?_; rintro e w9 ⟨rfl, hw9⟩; have hw8 := hw9.symm; clear hw9; subst hw8)
        | (go_at_call 54; refine (left_any (w := W) HFI.out.1.fld HFI.out.1.own HFI.out.1.sure HFI.out.1.big (amongN ks k) hal).mono ?_; rintro e w9 ⟨rfl, hw9⟩; have hw8 := hw9.symm; clear hw9; subst hw8; rw [← HDD.out.2]))
      go_roundw
      case rel =>
        refine ⟨k + 1, by go_num, hlt, ?_⟩
        have hfi := HFI.out.1
        have hk1 : Keep [fb p.2] W ((W.drew.setCell ⟨fb p.2, 0, none⟩ (.slice a dd.length dd.length)).setCell ⟨fb p.2, 1, none⟩ (.int .i64 (dd.length : Nat))) := (Keep.drew _ W).trans ((Keep.set _ _ _ _).trans (Keep.set _ _ _ _))
        have hfl : Fld 2 ((W.drew.setCell ⟨fb p.2, 0, none⟩ (.slice a dd.length dd.length)).setCell ⟨fb p.2, 1, none⟩ (.int .i64 (dd.length : Nat))) (fb p.2) (fcell a dd.length ⟨dd, dd.length⟩) := by
          refine (((hfi.fld.keep (Keep.drew [] W) (by simp)).set 0 (by omega) _).set 1 (by omega) _).eq ?_
          intro j hj
          match j, hj with
          | 0, _ => rfl
          | 1, _ => rfl
        have hfc := hfi.cut hk1 HLE.out HDD.out.1 hfl
        have hx := Pdu.setFile (m := { m with now := m.dirAt dir, fl := fk }) HX.out HFI.out.2 hk1 hfc
        have hgo : Goes T T W ((W.drew.setCell ⟨fb p.2, 0, none⟩ (.slice a dd.length dd.length)).setCell ⟨fb p.2, 1, none⟩ (.int .i64 (dd.length : Nat))) := Goes.keep hk1 (by intro b hb _; simp at hb; subst hb; rw [hfi.tag]; omega)
        refine ⟨by rw [HNX.out]; exact hx, HW.out.2.1.trans hgo, hk1.own HW.out.2.2.1 ?_, Nat.le_trans HW.out.2.2.2 hk1.size⟩
        intro g' hg' hm'
        simp at hm'
        have h1 := (HW.out.2.2.1.lt g' hg').1
        have h2 := H3.out.1.fresh g' h1
        rw [hm', hfi.tag] at h2; omega
      case measure => simp [intOf]; omega
    · have hk' : k = L := by omega
      subst hk'
      have c6 := (HW.out.1.top.1.2 6 (by omega)).1
      simp only [Top.cell] at c6
      have HU : Hid (usedOf (fallF ks (m.dirAt dir) m.fl k) (m.dirAt dir) ≤ 9223372036854775807) := by
        have hx : ∀ p ∈ m.dirAt dir, lenOf (fallF ks (m.dirAt dir) m.fl k) p.2 ≤ 2147483648 := fun p hp => by
          obtain ⟨f, hf⟩ : ∃ f, (fallF ks (m.dirAt dir) m.fl k)[p.2]? = some f := ⟨_, List.getElem?_eq_getElem (HW.out.1.ids p hp)⟩
          obtain ⟨a, c, hfi⟩ := HW.out.1.file p.2 f hf
          rw [lenOf_some hf]; exact hfi.big
        have := usedOf_le hx
        rw [HLL.out] at this
        show _ ≤ _
        omega
      have HB : Hid (∀ p ∈ m.dirAt dir, ∃ f, (fallF ks (m.dirAt dir) m.fl k)[p.2]? = some f ∧ ∃ a c, Fld 2 W (fb p.2) (fcell a c f)) := fun p hp => by
        obtain ⟨f, hf⟩ : ∃ f, (fallF ks (m.dirAt dir) m.fl k)[p.2]? = some f := ⟨_, List.getElem?_eq_getElem (HW.out.1.ids p hp)⟩
        obtain ⟨a, c, hfi⟩ := HW.out.1.file p.2 f hf
        exact ⟨f, hf, a, c, hfi.fld⟩
      have HWF : Hid (∀ W2, Below W.heap.size W W2 → ∀ j, j < 9 → W2.frozen? ⟨d, j, none⟩ = false ∧ ∃ v, W2.cell? ⟨d, j, none⟩ = some v) := fun W2 hb j hj => ⟨((HW.out.1.below hb).top.1.2 j hj).2, _, ((HW.out.1.below hb).top.1.2 j hj).1⟩
      go_wp2_with (go_at_call 57; refine (bytes_any HW.out.1.map HW.out.1.dir HB.out HU.out).mono ?_; rintro e w9 ⟨rfl, hb9⟩; have H9 : Hid (Below W.heap.size W w9) := hb9; obtain ⟨f5, x5, d5⟩ := HWF.out w9 hb9 5 (by omega); obtain ⟨f7, x7, d7⟩ := HWF.out w9 hb9 7 (by omega); obtain ⟨f8, x8, d8⟩ := HWF.out w9 hb9 8 (by omega); obtain ⟨f00, x00, d00⟩ := HWF.out w9 hb9 0 (by omega); obtain ⟨f01, x01, d01⟩ := HWF.out w9 hb9 1 (by omega); obtain ⟨f02, x02, d02⟩ := HWF.out w9 hb9 2 (by omega); obtain ⟨f03, x03, d03⟩ := HWF.out w9 hb9 3 (by omega); clear hb9)
      go_end0
      have hx := HW.out.1.below H9.out
      have e : m.fall dir ks = ⟨Rig.zero, m.room, fallF ks (m.dirAt dir) m.fl k, m.dirAt dir, [], false⟩ := by unfold Dm.fall; rw [HLL.out]
      rw [e]
      refine ⟨rfl, ⟨_, D3, Pdu.fell hx (keep_fell _ _ _) ⟨fld_fell hx.top.1 _, ?_⟩⟩, HW.out.2.1.trans ((Goes.below H9.out).trans (Goes.keep (keep_fell _ _ _) ?_))⟩
      · exact ⟨Nat.zero_le _, Nat.zero_le _, Nat.zero_le _, Nat.zero_le _⟩
      · intro b hb _
        simp at hb; subst hb
        have := H3.out.1.td; omega
end Dsk
end Go.Proofs.Ytbloifnibgdeoaa
namespace Go.Proofs.Ytbloifnibgdeoaa
namespace Dsk
open Go.RowKit Go.Shelf Go.Maps Go.Sort Byt Laws
set_option linter.unusedVariables false
set_option maxRecDepth 100000

/-- The directory behind the first k changes. -/
def Dm.bk (m : Dm) (k : Nat) : List (Key × Nat) := ((m.ch.drop k).reverse).foldl undo1 m.now
theorem dirAt_bk (m : Dm) (dir : Int) : m.dirAt dir = m.bk (keptN dir m.ch.length) := rfl
theorem bk_all {m : Dm} {k : Nat} (h : m.ch.length ≤ k) : m.bk k = m.now := by
  unfold Dm.bk
  rw [List.drop_eq_nil_of_le h]; rfl
theorem bk_same {m m' : Dm} (h1 : m'.ch = m.ch) (h2 : m'.now = m.now) (k : Nat) : m'.bk k = m.bk k := by
  unfold Dm.bk
  rw [h1, h2]
theorem bk_step {m m' : Dm} {c : Chg} (hc : m'.ch = m.ch ++ [c]) (hu : undo1 m'.now c = m.now) {k : Nat} (hk : k ≤ m.ch.length) : m'.bk k = m.bk k := by
  unfold Dm.bk
  rw [hc, List.drop_append_of_le_length hk, List.reverse_append]
  simp only [List.reverse_cons, List.reverse_nil, List.nil_append, List.cons_append, List.foldl_cons, hu]
theorem rises_putD {l : List (Key × Nat)} (h : Rises l) (k : Key) (o : Option Nat) : Rises (putD l k o) := by
  cases o with
  | none => exact rises_del h k
  | some i => exact rises_ins h k i
theorem rises_undo1 {l : List (Key × Nat)} (h : Rises l) (c : Chg) : Rises (undo1 l c) := by
  unfold undo1
  refine rises_putD ?_ _ _
  split
  · exact h
  · exact rises_putD h _ _
theorem rises_undo : ∀ (cs : List Chg) {l : List (Key × Nat)}, Rises l → Rises (cs.foldl undo1 l)
  | [], _, h => h
  | c :: cs, _, h => rises_undo cs (rises_undo1 h c)
theorem look_putD (l : List (Key × Nat)) (k : Key) (o : Option Nat) (x : Key) : look (putD l k o) x = if x = k then o else look l x := by
  cases o with
  | none =>
    by_cases e : x = k
    · subst e; rw [if_pos rfl]; exact look_del_same _ _
    · rw [if_neg e]; exact look_del_other _ e
  | some i =>
    by_cases e : x = k
    · subst e; rw [if_pos rfl]; exact look_ins_same _ _ _
    · rw [if_neg e]; exact look_ins_other _ _ e
/-- A change taken back. -/
theorem undo1_back {l l' : List (Key × Nat)} (hl : Rises l) (hl' : Rises l') {c : Chg} (h1 : look l (ky c.name) = c.was) (h2 : c.to.toList.isEmpty = false → look l (ky c.to) = c.over) (h3 : ∀ x, x ≠ ky c.name → (c.to.toList.isEmpty = true ∨ x ≠ ky c.to) → look l' x = look l x) : undo1 l' c = l := by
  refine rises_ext (rises_undo1 hl' c) hl fun x => ?_
  unfold undo1
  rw [look_putD]
  by_cases e : x = ky c.name
  · rw [if_pos e, e, h1]
  · rw [if_neg e]
    cases ht : c.to.toList.isEmpty with
    | true => rw [if_pos rfl]; exact h3 x e (.inl ht)
    | false =>
      rw [if_neg (by simp), look_putD]
      by_cases e2 : x = ky c.to
      · rw [if_pos e2, e2, h2 ht]
      · rw [if_neg e2]; exact h3 x e (.inr e2)

/-- What holds of a disk's history: each directory that a fall can bring back names a file once. -/
structure Hist (m : Dm) : Prop where
  rises : Rises m.now
  nod : ∀ k, ((m.bk k).map (·.2)).Nodup
  ids : ∀ k, ∀ p ∈ m.bk k, p.2 < m.fl.length
structure Nxt (m m' : Dm) : Prop where
  hist : Hist m'
  bk : ∀ k, k ≤ m.ch.length → m'.bk k = m.bk k
  len : m.ch.length ≤ m'.ch.length ∧ m'.ch.length ≤ m.ch.length + 1
theorem Hist.same {m m' : Dm} (h : Hist m) (h1 : m'.ch = m.ch) (h2 : m'.now = m.now) (h3 : m'.fl.length = m.fl.length) : Nxt m m' :=
  ⟨⟨by rw [h2]; exact h.rises, fun k => by rw [bk_same h1 h2]; exact h.nod k, fun k => by rw [bk_same h1 h2, h3]; exact h.ids k⟩, fun k _ => bk_same h1 h2 k, by rw [h1]; omega⟩
theorem Hist.step {m m' : Dm} {c : Chg} (h : Hist m) (hc : m'.ch = m.ch ++ [c]) (hu : undo1 m'.now c = m.now) (hr : Rises m'.now) (hn : (m'.now.map (·.2)).Nodup) (hi : ∀ p ∈ m'.now, p.2 < m'.fl.length) (hf : m.fl.length ≤ m'.fl.length) : Nxt m m' := by
  have hl : m'.ch.length = m.ch.length + 1 := by rw [hc]; simp
  refine ⟨⟨hr, fun k => ?_, fun k => ?_⟩, fun k hk => bk_step hc hu hk, by omega⟩
  · by_cases hk : k ≤ m.ch.length
    · rw [bk_step hc hu hk]; exact h.nod k
    · rw [bk_all (by omega)]; exact hn
  · by_cases hk : k ≤ m.ch.length
    · rw [bk_step hc hu hk]; intro p hp; exact Nat.lt_of_lt_of_le (h.ids k p hp) hf
    · rw [bk_all (by omega)]; exact hi
theorem Hist.now {m : Dm} (h : Hist m) : (m.now.map (·.2)).Nodup ∧ ∀ p ∈ m.now, p.2 < m.fl.length := by
  have h1 := h.nod m.ch.length
  have h2 := h.ids m.ch.length
  rw [bk_all (Nat.le_refl _)] at h1 h2
  exact ⟨h1, h2⟩
theorem Hist.of {T : Nat → Nat} {w : World} {d mb : Nat} {fb : Nat → Nat} {m : Dm} (h : Pd T w d mb fb m) (hc : m.ch = []) : Hist m := by
  obtain ⟨cv, D, h⟩ := h
  have e : ∀ k, m.bk k = m.now := fun k => bk_all (by rw [hc]; simp)
  exact ⟨h.dir.rises, fun k => by rw [e]; exact h.apart, fun k => by rw [e]; exact h.ids⟩
theorem Hist.dirAt {m : Dm} (h : Hist m) (dir : Int) : ((m.dirAt dir).map (·.2)).Nodup := h.nod _

theorem okN_to {s : ByteArray} (h : okN s = true) : s.toList.isEmpty = false := by
  unfold okN at h
  simp at h
  rw [tl_eq]
  have h1 := h.1.1
  have h2 : (ky s).length = s.size := rfl
  cases e : ky s with
  | nil => rw [e] at h2; simp at h2; omega
  | cons => rfl
theorem reach_okN {m : Dm} {ok : Bool} {k : Key} (h : (m.reach ok k).1 = 0) : ok = true := by
  cases ok with
  | true => rfl
  | false =>
    exfalso
    have he : (m.enter false).1 ≠ 0 := by
      unfold Dm.enter enterR
      cases m.down <;> simp
    unfold Dm.reach at h
    rw [if_pos he] at h
    exact he h
theorem empty_to : (⟨#[]⟩ : ByteArray).toList.isEmpty = true := by rw [tl_eq]; rfl
theorem Hist.create {m : Dm} (h : Hist m) (s : ByteArray) : Nxt m (m.create s).2 := by
  unfold Dm.create
  split
  · exact h.same rfl rfl rfl
  · split
    · exact h.same rfl rfl rfl
    · rename_i hl
      split
      · exact h.same rfl rfl rfl
      · split
        · exact h.same rfl rfl rfl
        · have hn : look m.now (ky s) = none := by
            cases e : look m.now (ky s) with
            | none => rfl
            | some i => exact absurd (by rw [e]; rfl) hl
          refine h.step (c := ⟨s, none, ⟨#[]⟩, none⟩) rfl ?_ (rises_ins h.rises _ _) ?_ ?_ ?_
          · refine undo1_back h.rises (rises_ins h.rises _ _) hn (fun e => by rw [empty_to] at e; cases e) (fun x hx _ => ?_)
            exact look_ins_other _ _ hx
          · show ((ins m.now (ky s) m.fl.length).map (·.2)).Nodup
            rw [(ids_ins hn m.fl.length).nodup_iff, List.nodup_cons]
            refine ⟨fun hm => ?_, h.now.1⟩
            obtain ⟨p, hp, e⟩ := List.mem_map.1 hm
            have := h.now.2 p hp
            omega
          · show ∀ p ∈ ins m.now (ky s) m.fl.length, p.2 < (m.fl ++ [(⟨[], 0⟩ : Fl)]).length
            intro p hp
            rw [List.length_append]
            rcases ins_mem hp with rfl | hp
            · simp
            · have := h.now.2 p hp; simp; omega
          · show m.fl.length ≤ (m.fl ++ [(⟨[], 0⟩ : Fl)]).length
            rw [List.length_append]; omega
theorem Hist.reach {m : Dm} (h : Hist m) (ok : Bool) (k : Key) : Nxt m (m.reach ok k).2 := by
  obtain ⟨h1, h2, h3, _⟩ := reach_same m ok k
  exact h.same h3 h1 (by rw [h2])
theorem Hist.delete {m : Dm} (h : Hist m) (s : ByteArray) : Nxt m (m.delete s).2 := by
  unfold Dm.delete
  split
  · obtain ⟨h1, h2, h3, _⟩ := reach_same m (okN s) (ky s)
    refine h.step (c := ⟨s, look m.now (ky s), ⟨#[]⟩, none⟩) (by show (m.reach (okN s) (ky s)).2.ch ++ _ = _; rw [h3]) ?_ (rises_del h.rises _) (nodup_del h.now.1 _) ?_ (by show _ ≤ (m.reach (okN s) (ky s)).2.fl.length; rw [h2]; exact Nat.le_refl _)
    · refine undo1_back h.rises (rises_del h.rises _) rfl (fun e => by rw [empty_to] at e; cases e) (fun x hx _ => ?_)
      exact look_del_other _ hx
    · show ∀ p ∈ del m.now (ky s), p.2 < (m.reach (okN s) (ky s)).2.fl.length
      rw [h2]
      exact fun p hp => h.now.2 p (mem_del hp)
  · exact h.reach _ _
theorem Hist.rename {m : Dm} (h : Hist m) (s t : ByteArray) : Nxt m (m.rename s t).2 := by
  unfold Dm.rename
  split
  · rename_i hc
    split
    · rename_i i hi
      obtain ⟨h1, h2, h3, _⟩ := reach_same m (okN s && okN t) (ky s)
      have hok := reach_okN hc.1
      simp at hok
      have hne := ky_ne hc.2
      refine h.step (c := ⟨s, some i, t, look m.now (ky t)⟩) (by show (m.reach _ (ky s)).2.ch ++ _ = _; rw [h3]) ?_ (rises_ins (rises_del h.rises _) _ _) (ids_ren h.rises hi h.now.1) ?_ (by show _ ≤ (m.reach _ (ky s)).2.fl.length; rw [h2]; exact Nat.le_refl _)
      · refine undo1_back h.rises (rises_ins (rises_del h.rises _) _ _) hi (fun _ => rfl) (fun x hx hx2 => ?_)
        rcases hx2 with hx2 | hx2
        · have := okN_to hok.2
          rw [this] at hx2; cases hx2
        · show look (ins (del m.now (ky s)) (ky t) i) x = _
          rw [look_ins_other _ _ hx2, look_del_other _ hx]
      · show ∀ p ∈ ins (del m.now (ky s)) (ky t) i, p.2 < (m.reach _ (ky s)).2.fl.length
        rw [h2]
        intro p hp
        rcases ins_mem hp with rfl | hp
        · exact h.now.2 (ky s, i) (look_some hi)
        · exact h.now.2 p (mem_del hp)
    · exact h.reach _ _
  · exact h.reach _ _
theorem Hist.sync {m : Dm} (h : Hist m) (s : ByteArray) : Nxt m (m.sync s).2 := by
  unfold Dm.sync
  split
  · obtain ⟨h1, h2, h3, _⟩ := reach_same m (okN s) (ky s)
    split
    · rename_i i hi
      unfold Dm.sure
      split
      · exact h.same h3 h1 (by show (List.set _ _ _).length = _; rw [List.length_set, h2])
      · exact h.reach _ _
    · exact h.reach _ _
  · exact h.reach _ _
theorem lay_fl (m : Dm) (i : Nat) (l : List Nat) : (m.lay i l).fl.length = m.fl.length := by unfold Dm.lay; simp
theorem Hist.append {m : Dm} (h : Hist m) (s : ByteArray) (l : List Nat) : Nxt m (m.append s l).2 := by
  unfold Dm.append
  split
  · simp only
    split
    · split
      · unfold Dm.layPart
        split
        · exact h.same rfl rfl (lay_fl _ _ _)
        · exact h.same rfl rfl rfl
      · exact h.same rfl rfl rfl
    · exact h.same rfl rfl rfl
  · split
    · exact h.same rfl rfl rfl
    · split
      · exact h.same rfl rfl rfl
      · split
        · exact h.same rfl rfl (lay_fl _ _ _)
        · exact h.same rfl rfl (lay_fl _ _ _)
theorem Hist.cleared {m m' : Dm} (h : Hist m) (h1 : m'.ch = []) (h2 : m'.now = m.now) (h3 : m'.fl.length = m.fl.length) : Hist m' := by
  have e : ∀ k, m'.bk k = m.now := fun k => by rw [bk_all (by rw [h1]; simp), h2]
  exact ⟨by rw [h2]; exact h.rises, fun k => by rw [e]; exact h.now.1, fun k => by rw [e, h3]; exact h.now.2⟩
theorem Hist.syncDir {m : Dm} (h : Hist m) : Hist m.syncDir.2 := by
  unfold Dm.syncDir
  split
  · exact (h.same (m' := (m.enter true).2) rfl rfl rfl).hist
  · split
    · exact (h.same (m' := ((m.enter true).2.spend 1).2) rfl rfl rfl).hist
    · exact h.cleared rfl rfl rfl
theorem Hist.fall {m : Dm} (h : Hist m) (dir : Int) (ks : List Int) : Hist (m.fall dir ks) := by
  have e : ∀ k, (m.fall dir ks).bk k = m.dirAt dir := fun k => bk_all (by show ([] : List Chg).length ≤ k; simp)
  have hl : (m.fall dir ks).fl.length = m.fl.length := fallF_length _ _ _ _
  exact ⟨rises_undo _ h.rises, fun k => by rw [e]; exact h.dirAt dir, fun k => by rw [e, hl]; exact h.ids _⟩
theorem Hist.arm {m : Dm} (h : Hist m) (n : Int) : Hist (m.arm n) := (h.same (m' := m.arm n) rfl rfl rfl).hist
theorem Hist.fail {m : Dm} (h : Hist m) (a c p : Int) : Hist (m.fail a c p) := (h.same (m' := m.fail a c p) rfl rfl rfl).hist
end Dsk
end Go.Proofs.Ytbloifnibgdeoaa
namespace Go.Proofs.Ytbloifnibgdeoaa
namespace Dsk
open Go.RowKit Go.Shelf Go.Maps Go.Sort Byt Laws
set_option linter.unusedVariables false
set_option maxRecDepth 100000
set_option linter.unusedSimpArgs false

/-- A directory whose files have other numbers. -/
def mp (φ : Nat → Nat) (l : List (Key × Nat)) : List (Key × Nat) := l.map fun p => (p.1, φ p.2)
theorem mp_length (φ : Nat → Nat) (l : List (Key × Nat)) : (mp φ l).length = l.length := List.length_map _
theorem mp_get {φ : Nat → Nat} {l : List (Key × Nat)} {k : Nat} {p : Key × Nat} (h : l[k]? = some p) : (mp φ l)[k]? = some (p.1, φ p.2) := by
  unfold mp; rw [List.getElem?_map, h]; rfl
theorem look_mp (φ : Nat → Nat) : ∀ (l : List (Key × Nat)) (k : Key), look (mp φ l) k = (look l k).map φ
  | [], _ => rfl
  | p :: r, k => by
    show (if p.1 = k then some (φ p.2) else look (mp φ r) k) = (if p.1 = k then some p.2 else look r k).map φ
    split
    · rfl
    · exact look_mp φ r k
theorem ins_mp (φ : Nat → Nat) : ∀ (l : List (Key × Nat)) (k : Key) (v : Nat), ins (mp φ l) k (φ v) = mp φ (ins l k v)
  | [], _, _ => rfl
  | p :: r, k, v => by
    show (if k < p.1 then (k, φ v) :: (p.1, φ p.2) :: mp φ r else if p.1 = k then (k, φ v) :: mp φ r else (p.1, φ p.2) :: ins (mp φ r) k (φ v)) = mp φ (if k < p.1 then (k, v) :: p :: r else if p.1 = k then (k, v) :: r else p :: ins r k v)
    split
    · rfl
    · split
      · rfl
      · rw [ins_mp φ r k v]; rfl
theorem del_mp (φ : Nat → Nat) (l : List (Key × Nat)) (k : Key) : del (mp φ l) k = mp φ (del l k) := by
  unfold del mp
  rw [List.filter_map]
  rfl
theorem mp_congr {φ φ' : Nat → Nat} {l : List (Key × Nat)} (h : ∀ p ∈ l, φ' p.2 = φ p.2) : mp φ' l = mp φ l := List.map_congr_left fun p hp => by rw [h p hp]
theorem used_mp {φ : Nat → Nat} {fl fl' : List Fl} {l : List (Key × Nat)} (h : ∀ p ∈ l, fl'[φ p.2]? = fl[p.2]?) : usedOf fl' (mp φ l) = usedOf fl l := by
  unfold usedOf mp
  rw [List.map_map]
  congr 1
  refine List.map_congr_left fun p hp => ?_
  show lenOf fl' (φ p.2) = lenOf fl p.2
  unfold lenOf
  rw [h p hp]
theorem told_mp {φ : Nat → Nat} {fl fl' : List Fl} {ks : List Int} {l : List (Key × Nat)} (h : ∀ p ∈ l, fl'[φ p.2]? = fl[p.2]?) : told fl' ks (mp φ l) = told fl ks l := by
  refine List.ext_getElem? fun k => ?_
  cases hp : l[k]? with
  | none =>
    have h1 : l.length ≤ k := List.getElem?_eq_none_iff.1 hp
    rw [List.getElem?_eq_none (by rw [told_length, mp_length]; exact h1), List.getElem?_eq_none (by rw [told_length]; exact h1)]
  | some p =>
    rw [told_get (mp_get hp), told_get hp]
    have e : ∀ o, leftD fl' (φ p.2) o = leftD fl p.2 o := fun o => by
      unfold leftD dataOf sureOf lenOf
      rw [h p (List.mem_of_getElem? hp)]
    simp only [e]

/-- A file that some directory names which may come back. -/
def Al (m : Dm) (i : Nat) : Prop := ∃ k, k ≤ m.ch.length ∧ i ∈ (m.bk k).map (·.2)
/-- The program's disk and the reference's, file by file. -/
structure Rel (φ : Nat → Nat) (m : Dm) (r : Rm) : Prop where
  down : r.down = m.down
  rig : m.down = false → r.rig = m.rig
  room : r.room = m.room
  len : r.ch.length = m.ch.length
  now : r.now = mp φ m.now
  dk : ∀ k, k ≤ m.ch.length → r.dk k = mp φ (m.bk k)
  inj : ∀ i j, Al m i → Al m j → φ i = φ j → i = j
  fl : ∀ i, Al m i → r.fl[φ i]? = m.fl[i]?
  kinds : ∀ c ∈ r.ch, c.kind = 1 ∨ c.kind = 2 ∨ c.kind = 3
theorem al_now {m : Dm} {p : Key × Nat} (h : p ∈ m.now) : Al m p.2 := ⟨m.ch.length, Nat.le_refl _, by rw [bk_all (Nat.le_refl _)]; exact List.mem_map.2 ⟨p, h, rfl⟩⟩
theorem al_look {m : Dm} {k : Key} {i : Nat} (h : look m.now k = some i) : Al m i := al_now (p := (k, i)) (look_some h)
theorem al_bk {m : Dm} {k : Nat} {p : Key × Nat} (h : p ∈ m.bk k) : Al m p.2 := by
  by_cases hk : k ≤ m.ch.length
  · exact ⟨k, hk, List.mem_map.2 ⟨p, h, rfl⟩⟩
  · rw [bk_all (by omega)] at h; exact al_now h
theorem al_lt {m : Dm} (hh : Hist m) {i : Nat} (h : Al m i) : i < m.fl.length := by
  obtain ⟨k, _, hi⟩ := h
  obtain ⟨p, hp, rfl⟩ := List.mem_map.1 hi
  exact hh.ids k p hp
section
variable {φ : Nat → Nat} {m : Dm} {r : Rm}
theorem Rel.look (h : Rel φ m r) (k : Key) : look r.now k = (look m.now k).map φ := by rw [h.now, look_mp]
theorem Rel.used (h : Rel φ m r) : r.used = m.used := by
  unfold Rm.used Dm.used
  rw [h.now]
  exact used_mp fun p hp => h.fl _ (al_now hp)
theorem Rel.turn (h : Rel φ m r) {x x' : Rig} {y : Bool} (hx : y = false → x' = x) : Rel φ { m with rig := x, down := y } { r with rig := x', down := y } :=
  ⟨rfl, hx, h.room, h.len, h.now, h.dk, h.inj, h.fl, h.kinds⟩
theorem Rel.enter (h : Rel φ m r) (ok : Bool) : (r.enter ok).1 = (m.enter ok).1 ∧ Rel φ (m.enter ok).2 (r.enter ok).2 := by
  unfold Rm.enter Dm.enter
  cases hd : m.down with
  | true =>
    have hr : r.down = true := by rw [h.down, hd]
    rw [hr]
    exact ⟨rfl, ⟨rfl, fun e => (by cases e), h.room, h.len, h.now, h.dk, h.inj, h.fl, h.kinds⟩⟩
  | false =>
    have hr : r.down = false := by rw [h.down, hd]
    rw [hr, h.rig hd]
    exact ⟨rfl, ⟨rfl, fun _ => rfl, h.room, h.len, h.now, h.dk, h.inj, h.fl, h.kinds⟩⟩
theorem Rel.spend (h : Rel φ m r) (hd : m.down = false) (n : Nat) : (r.spend n).1 = (m.spend n).1 ∧ Rel φ (m.spend n).2 (r.spend n).2 := by
  unfold Rm.spend Dm.spend
  have hr : r.down = false := by rw [h.down, hd]
  rw [hr, h.rig hd, hd]
  exact ⟨rfl, ⟨rfl, fun _ => rfl, h.room, h.len, h.now, h.dk, h.inj, h.fl, h.kinds⟩⟩
theorem Rel.arm (h : Rel φ m r) (n : Int) : Rel φ (m.arm n) (r.arm n) := by
  cases hd : m.down with
  | true =>
    have hr : r.down = true := by rw [h.down, hd]
    have e : r.arm n = r := by simp [Rm.arm, hr]
    rw [e]
    exact ⟨h.down, fun e => (by have e' : m.down = false := e; rw [hd] at e'; cases e'), h.room, h.len, h.now, h.dk, h.inj, h.fl, h.kinds⟩
  | false =>
    have hr : r.down = false := by rw [h.down, hd]
    have e : r.arm n = { r with rig := { r.rig with units := n.toNat } } := by simp [Rm.arm, hr]
    rw [e]
    exact ⟨h.down, fun _ => (by show ({ r.rig with units := n.toNat } : Rig) = { m.rig with units := n.toNat }; rw [h.rig hd]), h.room, h.len, h.now, h.dk, h.inj, h.fl, h.kinds⟩
theorem Rel.fail (h : Rel φ m r) (a c p : Int) : Rel φ (m.fail a c p) (r.fail a c p) := by
  cases hd : m.down with
  | true =>
    have hr : r.down = true := by rw [h.down, hd]
    have e : r.fail a c p = r := by simp [Rm.fail, hr]
    rw [e]
    exact ⟨h.down, fun e => (by have e' : m.down = false := e; rw [hd] at e'; cases e'), h.room, h.len, h.now, h.dk, h.inj, h.fl, h.kinds⟩
  | false =>
    have hr : r.down = false := by rw [h.down, hd]
    have e : r.fail a c p = { r with rig := { r.rig with after := a.toNat, calls := c.toNat, part := p.toNat } } := by simp [Rm.fail, hr]
    rw [e]
    exact ⟨h.down, fun _ => (by show ({ r.rig with after := a.toNat, calls := c.toNat, part := p.toNat } : Rig) = { m.rig with after := a.toNat, calls := c.toNat, part := p.toNat }; rw [h.rig hd]), h.room, h.len, h.now, h.dk, h.inj, h.fl, h.kinds⟩
theorem Rel.files (h : Rel φ m r) : r.files = m.files := by
  unfold Rm.files Dm.files
  rw [h.now]
  unfold mp
  rw [List.map_map]
  refine List.map_congr_left fun p hp => ?_
  show (⟨ofK p.1, dataOf r.fl (φ p.2), sureOf r.fl (φ p.2)⟩ : Fi) = ⟨ba p.1, dataOf m.fl p.2, sureOf m.fl p.2⟩
  unfold dataOf sureOf
  rw [h.fl _ (al_now hp)]
  rfl
theorem Rel.rest (h : Rel φ m r) (dir : Int) : r.rest dir = mp φ (m.dirAt dir) := by
  unfold Rm.rest
  rw [h.len, dirAt_bk]
  exact h.dk _ (by unfold keptN; omega)
theorem Rel.image (h : Rel φ m r) (dir : Int) (ks : List Int) : r.image dir ks = m.image dir ks := by
  unfold Rm.image Dm.image
  rw [h.rest]
  exact told_mp fun p hp => h.fl _ (by rw [dirAt_bk] at hp; exact al_bk hp)
theorem Rel.restIds (h : Rel φ m r) (hh : Hist m) (dir : Int) : ∀ p ∈ r.rest dir, p.2 < r.fl.length := fun p hp => by
  rw [h.rest] at hp
  obtain ⟨q, hq, rfl⟩ := List.mem_map.1 hp
  have ha : Al m q.2 := by rw [dirAt_bk] at hq; exact al_bk hq
  have e := h.fl _ ha
  rw [List.getElem?_eq_getElem (al_lt hh ha)] at e
  exact (List.getElem?_eq_some_iff.1 e).1
theorem Rel.lt (h : Rel φ m r) (hh : Hist m) {i : Nat} (ha : Al m i) : φ i < r.fl.length := by
  have e := h.fl _ ha
  rw [List.getElem?_eq_getElem (al_lt hh ha)] at e
  exact (List.getElem?_eq_some_iff.1 e).1
theorem Rel.read (h : Rel φ m r) (s : ByteArray) : r.read s = m.read s := by
  unfold Rm.read Dm.read
  rw [h.down, h.look]
  cases hl : Dsk.look m.now (ky s) with
  | none => rfl
  | some i =>
    show (if m.down = true then _ else if okN s = true then (((r.fl[φ i]?).map (·.data)).getD [], (0 : Int)) else _) = _
    rw [h.fl i (al_look hl)]
/-- One file's bytes turn. -/
theorem Rel.modify (h : Rel φ m r) {i : Nat} (hi : Al m i) (g : Fl → Fl) : Rel φ { m with fl := m.fl.modify i g } { r with fl := r.fl.modify (φ i) g } :=
  ⟨h.down, h.rig, h.room, h.len, h.now, h.dk, h.inj, fun j hj => by
    have hj' : Al m j := hj
    show (r.fl.modify (φ i) g)[φ j]? = (m.fl.modify i g)[j]?
    rw [List.getElem?_modify, List.getElem?_modify, h.fl j hj']
    by_cases e : i = j
    · subst e; simp
    · have e2 : ¬ φ i = φ j := fun e3 => e (h.inj i j hi hj' e3)
      simp [e, e2], h.kinds⟩
end
end Dsk
end Go.Proofs.Ytbloifnibgdeoaa
namespace Go.Proofs.Ytbloifnibgdeoaa
namespace Dsk
open Go.RowKit Go.Shelf Go.Maps Go.Sort Byt Laws
set_option linter.unusedVariables false
set_option maxRecDepth 100000
set_option linter.unusedSimpArgs false

theorem enter_down {m : Dm} {ok : Bool} (h : (m.enter ok).1 = 0 ∨ (m.enter ok).1 = 31) : m.down = false := by
  cases hd : m.down with
  | false => rfl
  | true =>
    exfalso
    have e : (m.enter ok).1 = 30 := by unfold Dm.enter enterR; rw [hd]; rfl
    rw [e] at h
    rcases h with h | h <;> cases h
theorem enter_down2 {m : Dm} {ok : Bool} (h : (m.enter ok).1 = 0 ∨ (m.enter ok).1 = 31) : (m.enter ok).2.down = false := (enter_down h : m.down = false)
theorem rreach_same (m : Rm) (ok : Bool) (k : Key) : (m.reach ok k).2.now = m.now ∧ (m.reach ok k).2.fl = m.fl ∧ (m.reach ok k).2.ch = m.ch ∧ (m.reach ok k).2.su = m.su := by
  unfold Rm.reach
  split
  · exact ⟨rfl, rfl, rfl, rfl⟩
  · split
    · exact ⟨rfl, rfl, rfl, rfl⟩
    · split <;> exact ⟨rfl, rfl, rfl, rfl⟩
theorem set_modify {fl : List Fl} {i : Nat} (g : Fl → Fl) {f : Fl} (h : fl[i]? = some f) : fl.set i (g f) = fl.modify i g := by
  refine List.ext_getElem? fun j => ?_
  rw [List.getElem?_modify, List.getElem?_set]
  by_cases e : i = j
  · subst e
    obtain ⟨hlt, hge⟩ := List.getElem?_eq_some_iff.1 h
    simp [hlt, hge]
  · simp [e]
theorem modify_none {fl : List Fl} {i : Nat} (g : Fl → Fl) (h : fl[i]? = none) : fl.modify i g = fl := by
  refine List.ext_getElem? fun j => ?_
  rw [List.getElem?_modify]
  by_cases e : i = j
  · subst e; simp [h]
  · simp [e]
theorem dsure_eq (m : Dm) (i : Nat) : m.sure i = { m with fl := m.fl.modify i fun f => { f with sure := f.data.length } } := by
  unfold Dm.sure
  cases h : m.fl[i]? with
  | none => show m = { m with fl := m.fl.modify i _ }; rw [modify_none _ h]
  | some f => show { m with fl := m.fl.set i { f with sure := f.data.length } } = _; rw [← set_modify (fun f => { f with sure := f.data.length }) h]
theorem rsure_eq (m : Rm) (i : Nat) : m.sure i = { m with fl := m.fl.modify i fun f => { f with sure := f.data.length } } := by
  unfold Rm.sure
  cases h : m.fl[i]? with
  | none => show m = { m with fl := m.fl.modify i _ }; rw [modify_none _ h]
  | some f => show { m with fl := m.fl.set i { f with sure := f.data.length } } = _; rw [← set_modify (fun f => { f with sure := f.data.length }) h]
section
variable {φ : Nat → Nat} {m : Dm} {r : Rm}
theorem Rel.reach (h : Rel φ m r) (ok : Bool) (k : Key) : (r.reach ok k).1 = (m.reach ok k).1 ∧ Rel φ (m.reach ok k).2 (r.reach ok k).2 := by
  obtain ⟨e1, e2⟩ := h.enter ok
  unfold Rm.reach Dm.reach
  rw [e1]
  by_cases he : (m.enter ok).1 ≠ 0
  · rw [if_pos he, if_pos he]
    exact ⟨e1, e2⟩
  · rw [if_neg he, if_neg he, h.look]
    cases hl : Dsk.look m.now k with
    | none => exact ⟨rfl, e2⟩
    | some i =>
      have hd : (m.enter ok).2.down = false := enter_down2 (.inl (Decidable.not_not.1 he))
      obtain ⟨s1, s2⟩ := e2.spend hd 1
      show (if 0 < ((r.enter ok).2.spend 1).1 then _ else _ : Int × Rm).1 = (if 0 < ((m.enter ok).2.spend 1).1 then _ else _ : Int × Dm).1 ∧ Rel φ (if 0 < ((m.enter ok).2.spend 1).1 then _ else _ : Int × Dm).2 (if 0 < ((r.enter ok).2.spend 1).1 then _ else _ : Int × Rm).2
      rw [s1]
      by_cases hp : 0 < ((m.enter ok).2.spend 1).1
      · rw [if_pos hp, if_pos hp]; exact ⟨rfl, s2⟩
      · rw [if_neg hp, if_neg hp]; exact ⟨rfl, s2⟩
theorem al_reach {ok : Bool} {k k2 : Key} {i : Nat} (hl : Dsk.look m.now k2 = some i) : Al (m.reach ok k).2 i :=
  al_look (k := k2) (by rw [(reach_same m ok k).1]; exact hl)
theorem Rel.sync (h : Rel φ m r) (s : ByteArray) : (r.sync s).1 = (m.sync s).1 ∧ Rel φ (m.sync s).2 (r.sync s).2 := by
  obtain ⟨e1, e2⟩ := h.reach (okN s) (ky s)
  unfold Rm.sync Dm.sync
  rw [e1]
  by_cases he : (m.reach (okN s) (ky s)).1 = 0
  · rw [if_pos he, if_pos he, h.look]
    cases hl : Dsk.look m.now (ky s) with
    | none => exact ⟨rfl, e2⟩
    | some i =>
      refine ⟨rfl, ?_⟩
      show Rel φ ((m.reach (okN s) (ky s)).2.sure i) ((r.reach (okN s) (ky s)).2.sure (φ i))
      rw [dsure_eq, rsure_eq]
      exact e2.modify (al_reach hl) _
  · rw [if_neg he, if_neg he]
    exact ⟨e1, e2⟩
theorem Rel.lenOf (h : Rel φ m r) {i : Nat} (hi : Al m i) : Dsk.lenOf r.fl (φ i) = Dsk.lenOf m.fl i := by
  unfold Dsk.lenOf; rw [h.fl i hi]
theorem Rel.lay (h : Rel φ m r) {i : Nat} (hi : Al m i) (l : List Nat) : Rel φ (m.lay i l) (r.lay (φ i) l) := h.modify hi _
theorem Rel.layPart (h : Rel φ m r) (hd : m.down = false) {i : Nat} (hi : Al m i) (l : List Nat) : Rel φ (m.layPart i l) (r.layPart (φ i) l) := by
  unfold Rm.layPart Dm.layPart
  rw [h.room, h.used, h.lenOf hi, h.rig hd]
  split
  · exact h.lay hi _
  · exact h
theorem Rel.append (h : Rel φ m r) (s : ByteArray) (l : List Nat) : (r.append s l).1 = (m.append s l).1 ∧ Rel φ (m.append s l).2 (r.append s l).2 := by
  obtain ⟨e1, e2⟩ := h.enter (okN s)
  unfold Rm.append Dm.append
  rw [e1]
  by_cases he : (m.enter (okN s)).1 ≠ 0
  · rw [if_pos he, if_pos he]
    refine ⟨rfl, ?_⟩
    by_cases h31 : (m.enter (okN s)).1 = 31
    · rw [if_pos h31, if_pos h31, h.look]
      cases hl : Dsk.look m.now (ky s) with
      | none => exact e2
      | some i => exact e2.layPart (enter_down2 (.inr h31)) (al_look (k := ky s) hl) l
    · rw [if_neg h31, if_neg h31]
      exact e2
  · rw [if_neg he, if_neg he, h.look]
    have hd : (m.enter (okN s)).2.down = false := enter_down2 (.inl (Decidable.not_not.1 he))
    cases hl : Dsk.look m.now (ky s) with
    | none => exact ⟨rfl, e2⟩
    | some i =>
      have ha : Al m i := al_look hl
      obtain ⟨s1, s2⟩ := e2.spend hd (1 + l.length)
      show (if roomR r.room r.used (Dsk.lenOf r.fl (φ i)) l.length = false then _ else if 0 < ((r.enter (okN s)).2.spend (1 + l.length)).1 then _ else _ : Int × Rm).1 = (if roomR m.room m.used (Dsk.lenOf m.fl i) l.length = false then _ else if 0 < ((m.enter (okN s)).2.spend (1 + l.length)).1 then _ else _ : Int × Dm).1 ∧ Rel φ (if roomR m.room m.used (Dsk.lenOf m.fl i) l.length = false then _ else if 0 < ((m.enter (okN s)).2.spend (1 + l.length)).1 then _ else _ : Int × Dm).2 (if roomR r.room r.used (Dsk.lenOf r.fl (φ i)) l.length = false then _ else if 0 < ((r.enter (okN s)).2.spend (1 + l.length)).1 then _ else _ : Int × Rm).2
      rw [h.room, h.used, h.lenOf ha, s1]
      by_cases hro : roomR m.room m.used (Dsk.lenOf m.fl i) l.length = false
      · rw [if_pos hro, if_pos hro]; exact ⟨rfl, e2⟩
      · rw [if_neg hro, if_neg hro]
        by_cases hp : 0 < ((m.enter (okN s)).2.spend (1 + l.length)).1
        · rw [if_pos hp, if_pos hp]
          exact ⟨rfl, s2.lay ha _⟩
        · rw [if_neg hp, if_neg hp]
          exact ⟨rfl, s2.lay ha _⟩
theorem Rel.clear (h : Rel φ m r) (su : List (Key × Nat)) (hsu : su = r.now) : Rel φ { m with ch := [] } { r with su := su, ch := [] } := by
  subst hsu
  have hal : ∀ i, Al { m with ch := [] } i → Al m i := fun i hi => by
    obtain ⟨k, hk, hi⟩ := hi
    have e : Dm.bk { m with ch := [] } k = m.now := bk_all (by simp)
    rw [e] at hi
    obtain ⟨p, hp, rfl⟩ := List.mem_map.1 hi
    exact al_now hp
  refine ⟨h.down, h.rig, h.room, rfl, h.now, fun k hk => ?_, fun i j hi hj => h.inj i j (hal i hi) (hal j hj), fun i hi => h.fl i (hal i hi), fun c hc => by cases hc⟩
  have e : Dm.bk { m with ch := [] } k = m.now := bk_all (by simp)
  rw [e]
  have hk0 : k = 0 := by simpa using hk
  subst hk0
  exact h.now
theorem Rel.syncDir (h : Rel φ m r) : r.syncDir.1 = m.syncDir.1 ∧ Rel φ m.syncDir.2 r.syncDir.2 := by
  obtain ⟨e1, e2⟩ := h.enter true
  unfold Rm.syncDir Dm.syncDir
  rw [e1]
  by_cases he : (m.enter true).1 ≠ 0
  · rw [if_pos he, if_pos he]
    exact ⟨e1, e2⟩
  · rw [if_neg he, if_neg he]
    have hd : (m.enter true).2.down = false := enter_down2 (.inl (Decidable.not_not.1 he))
    obtain ⟨s1, s2⟩ := e2.spend hd 1
    rw [s1]
    by_cases hp : 0 < ((m.enter true).2.spend 1).1
    · rw [if_pos hp, if_pos hp]; exact ⟨rfl, s2⟩
    · rw [if_neg hp, if_neg hp]; exact ⟨rfl, s2.clear r.now rfl⟩
/-- The directory changes by one step. -/
theorem Rel.step {φ' : Nat → Nat} {m' : Dm} {r' : Rm} {c : Rc} (h : Rel φ m r) (hn : Nxt m m') (hl : m'.ch.length = m.ch.length + 1) (hrc : r'.ch = r.ch ++ [c]) (hsu : r'.su = r.su) (hf : r'.now = fwd r.now c) (he : ∀ i, Al m i → φ' i = φ i) (hnow : r'.now = mp φ' m'.now) (hd : r'.down = m'.down) (hrig : m'.down = false → r'.rig = m'.rig) (hroom : r'.room = m'.room) (hc : c.kind = 1 ∨ c.kind = 2 ∨ c.kind = 3)
    (hinj : ∀ i j, Al m' i → Al m' j → φ' i = φ' j → i = j) (hfl : ∀ i, Al m' i → r'.fl[φ' i]? = m'.fl[i]?) : Rel φ' m' r' := by
  have hdk : ∀ k, k ≤ m.ch.length → r'.dk k = r.dk k := fun k hk => by
    unfold Rm.dk
    rw [hrc, hsu, List.take_append_of_le_length (by rw [h.len]; exact hk)]
  refine ⟨hd, hrig, hroom, by rw [hrc, hl, List.length_append, h.len]; rfl, hnow, fun k hk => ?_, hinj, hfl, fun x hx => ?_⟩
  · by_cases hk2 : k ≤ m.ch.length
    · rw [hdk k hk2, h.dk k hk2, hn.bk k hk2]
      exact (mp_congr fun p hp => he _ (al_bk hp)).symm
    · have hke : k = m.ch.length + 1 := by omega
      subst hke
      have hcc : r'.ch[m.ch.length]? = some c := by rw [hrc, ← h.len]; simp
      rw [dk_next hcc, hdk _ (Nat.le_refl _), h.dk _ (Nat.le_refl _), bk_all (Nat.le_refl _), ← h.now, ← hf, hnow, bk_all (by omega)]
  · rw [hrc] at hx
    rcases List.mem_append.1 hx with hx | hx
    · exact h.kinds x hx
    · simp at hx; subst hx; exact hc
theorem al_step {m' : Dm} (hn : Nxt m m') {i : Nat} (ha : Al m' i) : Al m i ∨ i ∈ m'.now.map (·.2) := by
  obtain ⟨k, hk, hi⟩ := ha
  by_cases hk2 : k ≤ m.ch.length
  · rw [hn.bk k hk2] at hi
    exact .inl ⟨k, hk2, hi⟩
  · have := hn.len
    rw [bk_all (by omega)] at hi
    exact .inr hi
theorem Rel.delete (h : Rel φ m r) (hh : Hist m) (s : ByteArray) : (r.delete s).1 = (m.delete s).1 ∧ Rel φ (m.delete s).2 (r.delete s).2 := by
  obtain ⟨e1, e2⟩ := h.reach (okN s) (ky s)
  have hn := hh.delete s
  unfold Dm.delete at hn
  unfold Rm.delete Dm.delete
  rw [e1]
  by_cases he : (m.reach (okN s) (ky s)).1 = 0
  · rw [if_pos he] at hn
    rw [if_pos he, if_pos he]
    obtain ⟨r1, r2, r3, _⟩ := reach_same m (okN s) (ky s)
    obtain ⟨q1, q2, q3, q4⟩ := rreach_same r (okN s) (ky s)
    have hal : ∀ i, Al _ i → Al m i := fun i hi => by
      rcases al_step hn hi with hi | hi
      · exact hi
      · obtain ⟨p, hp, rfl⟩ := List.mem_map.1 hi
        exact al_now (mem_del hp)
    refine ⟨rfl, h.step (φ' := φ) (c := ⟨3, s, ⟨#[]⟩, 0⟩) hn ?_ rfl q4 ?_ (fun _ _ => rfl) ?_ e2.down e2.rig e2.room (.inr (.inr rfl)) (fun i j hi hj => h.inj i j (hal i hi) (hal j hj)) (fun i hi => ?_)⟩
    · show ((m.reach (okN s) (ky s)).2.ch ++ [_]).length = _
      rw [r3, List.length_append]; rfl
    · show del r.now (ky s) = fwd r.now _
      simp [fwd]
    · show del r.now (ky s) = mp φ (del m.now (ky s))
      rw [h.now, del_mp]
    · show (r.reach (okN s) (ky s)).2.fl[φ i]? = (m.reach (okN s) (ky s)).2.fl[i]?
      rw [q2, r2]; exact h.fl i (hal i hi)
  · rw [if_neg he, if_neg he]
    exact ⟨e1, e2⟩
theorem Rel.rename (h : Rel φ m r) (hh : Hist m) (s t : ByteArray) : (r.rename s t).1 = (m.rename s t).1 ∧ Rel φ (m.rename s t).2 (r.rename s t).2 := by
  obtain ⟨e1, e2⟩ := h.reach (okN s && okN t) (ky s)
  have hn := hh.rename s t
  unfold Dm.rename at hn
  unfold Rm.rename Dm.rename
  rw [e1]
  by_cases he : (m.reach (okN s && okN t) (ky s)).1 = 0 ∧ s ≠ t
  · rw [if_pos he] at hn
    rw [if_pos he, if_pos he, h.look]
    cases hl : Dsk.look m.now (ky s) with
    | none => exact ⟨e1, e2⟩
    | some i0 =>
      rw [hl] at hn
      simp only at hn
      obtain ⟨r1, r2, r3, _⟩ := reach_same m (okN s && okN t) (ky s)
      obtain ⟨q1, q2, q3, q4⟩ := rreach_same r (okN s && okN t) (ky s)
      have hal : ∀ i, Al _ i → Al m i := fun i hi => by
        rcases al_step hn hi with hi | hi
        · exact hi
        · obtain ⟨p, hp, rfl⟩ := List.mem_map.1 hi
          rcases ins_mem hp with rfl | hp
          · exact al_look hl
          · exact al_now (mem_del hp)
      refine ⟨rfl, h.step (φ' := φ) (c := ⟨2, s, t, 0⟩) hn ?_ rfl q4 ?_ (fun _ _ => rfl) ?_ e2.down e2.rig e2.room (.inr (.inl rfl)) (fun i j hi hj => h.inj i j (hal i hi) (hal j hj)) (fun i hi => ?_)⟩
      · show ((m.reach (okN s && okN t) (ky s)).2.ch ++ [_]).length = _
        rw [r3, List.length_append]; rfl
      · show ins (del r.now (ky s)) (ky t) (φ i0) = fwd r.now _
        simp [fwd, h.look, hl]
      · show ins (del r.now (ky s)) (ky t) (φ i0) = mp φ (ins (del m.now (ky s)) (ky t) i0)
        rw [h.now, del_mp, ins_mp]
      · show (r.reach (okN s && okN t) (ky s)).2.fl[φ i]? = (m.reach (okN s && okN t) (ky s)).2.fl[i]?
        rw [q2, r2]; exact h.fl i (hal i hi)
  · rw [if_neg he, if_neg he]
    exact ⟨e1, e2⟩
theorem Rel.create (h : Rel φ m r) (hh : Hist m) (s : ByteArray) : (r.create s).1 = (m.create s).1 ∧ ∃ φ', Rel φ' (m.create s).2 (r.create s).2 := by
  obtain ⟨e1, e2⟩ := h.enter (okN s)
  have hn := hh.create s
  unfold Dm.create at hn
  unfold Rm.create Dm.create
  rw [e1]
  by_cases he : (m.enter (okN s)).1 ≠ 0
  · rw [if_pos he, if_pos he]
    exact ⟨e1, φ, e2⟩
  · rw [if_neg he] at hn
    rw [if_neg he, if_neg he, h.look]
    have hd : (m.enter (okN s)).2.down = false := enter_down2 (.inl (Decidable.not_not.1 he))
    have hln : r.now.length = m.now.length := by rw [h.now, mp_length]
    cases hl : Dsk.look m.now (ky s) with
    | some i => exact ⟨rfl, φ, e2⟩
    | none =>
      rw [hl] at hn
      simp only [Option.isSome_none, Bool.false_eq_true, if_false] at hn
      simp only [Option.map_none, Option.isSome_none, Bool.false_eq_true, if_false]
      rw [hln]
      by_cases hb : 8388608 ≤ m.now.length
      · rw [if_pos hb, if_pos hb]; exact ⟨rfl, φ, e2⟩
      · rw [if_neg hb] at hn
        rw [if_neg hb, if_neg hb]
        obtain ⟨s1, s2⟩ := e2.spend hd 1
        rw [s1]
        by_cases hp : 0 < ((m.enter (okN s)).2.spend 1).1
        · rw [if_pos hp, if_pos hp]; exact ⟨rfl, φ, s2⟩
        · rw [if_neg hp] at hn
          rw [if_neg hp, if_neg hp]
          have hne : ∀ i, Al m i → i ≠ m.fl.length := fun i hi => by have := al_lt hh hi; omega
          have hal : ∀ i, Al _ i → Al m i ∨ i = m.fl.length := fun i hi => by
            rcases al_step hn hi with hi | hi
            · exact .inl hi
            · obtain ⟨p, hp, rfl⟩ := List.mem_map.1 hi
              rcases ins_mem hp with rfl | hp
              · exact .inr rfl
              · exact .inl (al_now hp)
          have e0 : ∀ i, Al m i → (fun x => if x = m.fl.length then r.fl.length else φ x) i = φ i := fun i hi => if_neg (hne i hi)
          refine ⟨rfl, (fun x => if x = m.fl.length then r.fl.length else φ x), h.step (c := ⟨1, s, ⟨#[]⟩, r.fl.length⟩) hn ?_ rfl rfl ?_ e0 ?_ s2.down s2.rig s2.room (.inl rfl) (fun i j hi hj heq => ?_) (fun i hi => ?_)⟩
          · show (m.ch ++ [_]).length = _
            rw [List.length_append]; rfl
          · show ins r.now (ky s) r.fl.length = fwd r.now _
            simp [fwd]
          · show ins r.now (ky s) r.fl.length = mp (fun x => if x = m.fl.length then r.fl.length else φ x) (ins m.now (ky s) m.fl.length)
            rw [← ins_mp, h.now, mp_congr (φ' := fun x => if x = m.fl.length then r.fl.length else φ x) (φ := φ) (fun p hp => e0 _ (al_now hp))]
            simp
          · have heq' : (if i = m.fl.length then r.fl.length else φ i) = (if j = m.fl.length then r.fl.length else φ j) := heq
            rcases hal i hi with h1 | rfl
            · rcases hal j hj with h2 | rfl
              · rw [if_neg (hne i h1), if_neg (hne j h2)] at heq'
                exact h.inj i j h1 h2 heq'
              · rw [if_neg (hne i h1), if_pos rfl] at heq'
                have := h.lt hh h1
                omega
            · rcases hal j hj with h2 | rfl
              · rw [if_pos rfl, if_neg (hne j h2)] at heq'
                have := h.lt hh h2
                omega
              · rfl
          · show (r.fl ++ [(⟨[], 0⟩ : Fl)])[if i = m.fl.length then r.fl.length else φ i]? = (m.fl ++ [(⟨[], 0⟩ : Fl)])[i]?
            rcases hal i hi with h1 | rfl
            · rw [if_neg (hne i h1), List.getElem?_append_left (h.lt hh h1), List.getElem?_append_left (al_lt hh h1)]
              exact h.fl i h1
            · rw [if_pos rfl]
              simp
end
end Dsk
end Go.Proofs.Ytbloifnibgdeoaa
namespace Go.Proofs.Ytbloifnibgdeoaa
namespace Dsk
open Go.RowKit Go.Shelf Go.Maps Go.Sort Byt Laws
set_option linter.unusedVariables false
set_option maxRecDepth 100000

/-! The mathematics of P3.11. -/
theorem look_len {m : Dm} (h : Hist m) {k : Key} {i : Nat} (hl : look m.now k = some i) : i < m.fl.length := h.now.2 _ (look_some hl)
/-- A file's bytes that are sure. -/
def sureB (f : Fl) : List Nat := f.data.take f.sure
/-- What is held of a name stands, sure. -/
def Hd (m : Dm) (x : ByteArray × List Nat) : Prop := ∃ i f, look m.now (ky x.1) = some i ∧ m.fl[i]? = some f ∧ x.2 <+: sureB f
theorem Hd.same {m m' : Dm} {x : ByteArray × List Nat} (h : Hd m x) (h1 : m'.now = m.now) (h2 : m'.fl = m.fl) : Hd m' x := by
  obtain ⟨i, f, a, b, c⟩ := h
  exact ⟨i, f, by rw [h1]; exact a, by rw [h2]; exact b, c⟩
def gone (l : List (ByteArray × List Nat)) (s : ByteArray) : List (ByteArray × List Nat) := l.filter fun x => decide (x.1 ≠ s)
theorem mem_gone {l : List (ByteArray × List Nat)} {s : ByteArray} {x : ByteArray × List Nat} (h : x ∈ gone l s) : x ∈ l ∧ ky x.1 ≠ ky s := by
  have := List.mem_filter.1 h
  exact ⟨this.1, ky_ne (by simpa using this.2)⟩
theorem lay_get {m : Dm} {i : Nat} {l : List Nat} {j : Nat} {f : Fl} (h : m.fl[j]? = some f) : ∃ f', (m.lay i l).fl[j]? = some f' ∧ f'.sure = f.sure ∧ ∃ r, f'.data = f.data ++ r := by
  unfold Dm.lay
  simp only
  rw [List.getElem?_modify, h]
  by_cases e : i = j
  · exact ⟨{ f with data := f.data ++ l }, by simp [e], rfl, l, rfl⟩
  · exact ⟨f, by simp [e], rfl, [], by simp⟩
theorem Hd.lay {m m' : Dm} {i : Nat} {l : List Nat} {x : ByteArray × List Nat} (h : Hd m x) (hs : ∀ (j : Nat) (f : Fl), m.fl[j]? = some f → f.sure ≤ f.data.length) (h1 : m'.now = m.now) (h2 : m'.fl = (m.lay i l).fl) : Hd m' x := by
  obtain ⟨j, f, a, b, c⟩ := h
  obtain ⟨f', e1, e2, r, e3⟩ := lay_get (i := i) (l := l) b
  refine ⟨j, f', by rw [h1]; exact a, by rw [h2]; exact e1, ?_⟩
  have := hs j f b
  unfold sureB at c ⊢
  rw [e2, e3, List.take_append_of_le_length this]
  exact c
theorem Hd.append {m : Dm} {x : ByteArray × List Nat} (h : Hd m x) (hs : ∀ (j : Nat) (f : Fl), m.fl[j]? = some f → f.sure ≤ f.data.length) (s : ByteArray) (l : List Nat) : Hd (m.append s l).2 x := by
  unfold Dm.append
  split
  · simp only
    split
    · split
      · unfold Dm.layPart
        split
        · exact h.lay hs rfl rfl
        · exact h.same rfl rfl
      · exact h.same rfl rfl
    · exact h.same rfl rfl
  · split
    · exact h.same rfl rfl
    · split
      · exact h.same rfl rfl
      · split
        · exact h.lay hs rfl rfl
        · exact h.lay hs rfl rfl
theorem Hd.create {m : Dm} {x : ByteArray × List Nat} (h : Hd m x) (hh : Hist m) (s : ByteArray) : (m.create s).1 ≠ 0 ∨ ky x.1 ≠ ky s → Hd (m.create s).2 x := by
  unfold Dm.create
  split
  · intro _; exact h.same rfl rfl
  · split
    · intro _; exact h.same rfl rfl
    · split
      · intro _; exact h.same rfl rfl
      · split
        · intro _; exact h.same rfl rfl
        · intro hc
          rcases hc with hc | hc
          · exact absurd rfl hc
          · obtain ⟨j, f, a, b, c⟩ := h
            have hj : j < m.fl.length := (List.getElem?_eq_some_iff.1 b).1
            refine ⟨j, f, ?_, ?_, c⟩
            · show look (ins m.now (ky s) m.fl.length) (ky x.1) = _
              rw [look_ins_other _ _ hc]; exact a
            · show (m.fl ++ [(⟨[], 0⟩ : Fl)])[j]? = _
              rw [List.getElem?_append_left hj]; exact b
theorem Hd.reach {m : Dm} {x : ByteArray × List Nat} (h : Hd m x) (ok : Bool) (k : Key) : Hd (m.reach ok k).2 x := by
  obtain ⟨h1, h2, _, _⟩ := reach_same m ok k
  exact h.same h1 h2
theorem Hd.delete {m : Dm} {x : ByteArray × List Nat} (h : Hd m x) (s : ByteArray) : (m.delete s).1 ≠ 0 ∨ ky x.1 ≠ ky s → Hd (m.delete s).2 x := by
  unfold Dm.delete
  split
  · intro hc
    rcases hc with hc | hc
    · exact absurd rfl hc
    · obtain ⟨h1, h2, _, _⟩ := reach_same m (okN s) (ky s)
      obtain ⟨j, f, a, b, c⟩ := h
      refine ⟨j, f, ?_, ?_, c⟩
      · show look (del m.now (ky s)) (ky x.1) = _
        rw [look_del_other _ hc]; exact a
      · show (m.reach (okN s) (ky s)).2.fl[j]? = _
        rw [h2]; exact b
  · intro _; exact h.reach _ _
theorem Hd.rename {m : Dm} {x : ByteArray × List Nat} (h : Hd m x) (s t : ByteArray) : ((m.rename s t).1 ≠ 0 ∨ s = t) ∨ (ky x.1 ≠ ky s ∧ ky x.1 ≠ ky t) → Hd (m.rename s t).2 x := by
  unfold Dm.rename
  split
  · rename_i hr
    split
    · intro hc
      rcases hc with (hc | hc) | hc
      · exact absurd rfl hc
      · exact absurd hc hr.2
      · obtain ⟨h1, h2, _, _⟩ := reach_same m (okN s && okN t) (ky s)
        obtain ⟨j, f, a, b, c⟩ := h
        refine ⟨j, f, ?_, ?_, c⟩
        · show look (ins (del m.now (ky s)) (ky t) _) (ky x.1) = _
          rw [look_ins_other _ _ hc.2, look_del_other _ hc.1]; exact a
        · show (m.reach _ (ky s)).2.fl[j]? = _
          rw [h2]; exact b
    · intro _; exact h.reach _ _
  · intro _; exact h.reach _ _
theorem take_pre {α : Type} {l : List α} {n m : Nat} (h : n ≤ m) : l.take n <+: l.take m := by
  have : l.take n = (l.take m).take n := by rw [List.take_take, Nat.min_eq_left h]
  rw [this]; exact List.take_prefix _ _
theorem Hd.sure {m m' : Dm} {x : ByteArray × List Nat} (h : Hd m x) {i : Nat} (h1 : m'.now = m.now) (h2 : m'.fl = m.fl) : Hd (m'.sure i) x := by
  unfold Dm.sure
  split
  · rename_i f hf
    obtain ⟨j, g, a, b, c⟩ := h
    by_cases e : j = i
    · subst e
      have e2 : f = g := by rw [h2, b] at hf; exact (Option.some.inj hf).symm
      subst e2
      have hj : j < m'.fl.length := (List.getElem?_eq_some_iff.1 hf).1
      refine ⟨j, { f with sure := f.data.length }, by show look m'.now _ = _; rw [h1]; exact a, ?_, ?_⟩
      · show (m'.fl.set j _)[j]? = _
        rw [List.getElem?_set_self hj]
      · unfold sureB at c ⊢
        simp only [List.take_length]
        exact c.trans (List.take_prefix _ _)
    · refine ⟨j, g, by show look m'.now _ = _; rw [h1]; exact a, ?_, c⟩
      show (m'.fl.set i _)[j]? = _
      rw [List.getElem?_set_ne (Ne.symm e), h2]; exact b
  · exact h.same h1 h2
theorem Hd.sync {m : Dm} {x : ByteArray × List Nat} (h : Hd m x) (s : ByteArray) : Hd (m.sync s).2 x := by
  unfold Dm.sync
  split
  · obtain ⟨h1, h2, _, _⟩ := reach_same m (okN s) (ky s)
    split
    · exact h.sure h1 h2
    · exact h.reach _ _
  · exact h.reach _ _
theorem Hd.syncDir {m : Dm} {x : ByteArray × List Nat} (h : Hd m x) : Hd m.syncDir.2 x := by
  unfold Dm.syncDir
  split
  · exact h.same rfl rfl
  · split
    · exact h.same rfl rfl
    · exact h.same rfl rfl
/-- Behind a Sync with OK all bytes of the file are held. -/
theorem sync_ok {m : Dm} {s : ByteArray} (hm : Hist m) (h : (m.sync s).1 = 0) : (m.sync s).2.down = false ∧ okN s = true ∧ ∃ i f, look (m.sync s).2.now (ky s) = some i ∧ (m.sync s).2.fl[i]? = some f ∧ f.sure = f.data.length ∧ ((m.sync s).2.read s) = (f.data, 0) := by
  have hr : (m.reach (okN s) (ky s)).1 = 0 := by
    unfold Dm.sync at h
    split at h
    · assumption
    · exact h
  obtain ⟨i, hi⟩ := reach_ok hr
  have hok := reach_okN hr
  obtain ⟨h1, h2, _, _⟩ := reach_same m (okN s) (ky s)
  have hlt := look_len hm hi
  obtain ⟨f, hf⟩ : ∃ f, m.fl[i]? = some f := ⟨_, List.getElem?_eq_getElem hlt⟩
  have hdn : (m.reach (okN s) (ky s)).2.down = false := by
    unfold Dm.reach at hr ⊢
    split at hr
    · rename_i h3; exact absurd hr h3
    · rename_i h3
      rw [if_neg h3, hi] at *
      simp only at hr ⊢
      have hd : m.down = false := by
        cases e : m.down with
        | false => rfl
        | true => exact absurd (by unfold Dm.enter enterR; rw [e]; simp) h3
      split at hr
      · simp at hr
      · rename_i h4
        rw [if_neg h4]
        simp only
        unfold Dm.spend spendR at h4 ⊢
        simp only at h4 ⊢
        split at h4
        · rename_i h5; simp only at h4; exact absurd h5 h4
        · rename_i h5; rw [if_neg h5]; exact hd
  have e : (m.sync s).2 = { (m.reach (okN s) (ky s)).2 with fl := m.fl.set i { f with sure := f.data.length } } := by
    unfold Dm.sync
    rw [if_pos hr, hi]
    simp only
    unfold Dm.sure
    rw [h2, hf]
  rw [e]
  have hg : (m.fl.set i { f with sure := f.data.length })[i]? = some { f with sure := f.data.length } := List.getElem?_set_self hlt
  refine ⟨hdn, hok, i, { f with sure := f.data.length }, by show look (m.reach _ _).2.now _ = _; rw [h1]; exact hi, hg, rfl, ?_⟩
  unfold Dm.read
  simp only
  rw [if_neg (by rw [hdn]; simp), if_pos hok, h1, hi]
  simp only
  rw [hg]
  rfl
end Dsk
end Go.Proofs.Ytbloifnibgdeoaa
namespace Go.Proofs.Ytbloifnibgdeoaa
namespace Dsk
open Go.RowKit Go.Shelf Go.Maps Go.Sort Byt Laws
set_option linter.unusedVariables false
set_option maxRecDepth 100000

/-! What a fall leaves: the mathematics of P3.6, P3.7, P3.11. -/
theorem told_names (fl : List Fl) (ks : List Int) (l : List (Key × Nat)) : (told fl ks l).map (·.name) = l.map fun p => ba p.1 := by
  unfold told
  rw [List.map_map]
  have : ((fun f : Fi => f.name) ∘ fun x : (Key × Nat) × Nat => (⟨ba x.1.1, leftD fl x.1.2 (amongN ks x.2), (leftD fl x.1.2 (amongN ks x.2)).length⟩ : Fi)) = (fun p : Key × Nat => ba p.1) ∘ Prod.fst := rfl
  rw [this, ← List.map_map, List.zipIdx_map_fst]
theorem files_names (m : Dm) : m.files.map (·.name) = m.now.map fun p => ba p.1 := by
  unfold Dm.files
  rw [List.map_map]; rfl
theorem image_names (m : Dm) (dir : Int) (ks : List Int) : (m.image dir ks).map (·.name) = (m.dirAt dir).map fun p => ba p.1 := told_names _ _ _
theorem dirAt_all {m : Dm} {dir : Int} (h : (m.ch.length : Int) ≤ dir) : m.dirAt dir = m.now := by
  rw [dirAt_bk]
  refine bk_all ?_
  unfold keptN; omega
theorem dirAt_zero (m : Dm) : m.dirAt 0 = m.bk 0 := by
  rw [dirAt_bk]
  have : keptN 0 m.ch.length = 0 := by unfold keptN; simp
  rw [this]
theorem leftN_ge (len sure : Nat) (o : Int) : sure ≤ leftN len sure o := by unfold leftN; omega
/-- What is held stands in the image that keeps all changes. -/
theorem held_there {m : Dm} (hh : Hist m) {x : ByteArray × List Nat} (h : Hd m x) {dir : Int} (hd : (m.ch.length : Int) ≤ dir) (ks : List Int) : (∃ f ∈ m.image dir ks, f.name = x.1) ∧ ∀ (k : Nat) (f : Fi), (m.image dir ks)[k]? = some f → f.name = x.1 → x.2 <+: f.data := by
  obtain ⟨i, g, a, b, c⟩ := h
  have e := dirAt_all hd
  constructor
  · have hm := look_some a
    have : x.1 ∈ (m.image dir ks).map (·.name) := by
      rw [image_names, e]
      refine List.mem_map.2 ⟨_, hm, ?_⟩
      show ba (ky x.1) = x.1
      exact ba_ky _
    obtain ⟨f, hf, e2⟩ := List.mem_map.1 this
    exact ⟨f, hf, e2⟩
  · intro k f hf hn
    have hk : k < (m.dirAt dir).length := by
      have := (List.getElem?_eq_some_iff.1 hf).1
      rwa [Dm.image, told_length] at this
    obtain ⟨p, hp⟩ : ∃ p, (m.dirAt dir)[k]? = some p := ⟨_, List.getElem?_eq_getElem hk⟩
    have hg := told_get (fl := m.fl) (ks := ks) hp
    have hf' : (told m.fl ks (m.dirAt dir))[k]? = some f := hf
    rw [hg] at hf'
    cases hf'
    simp only at hn ⊢
    have hpm : p ∈ m.now := by rw [← e]; exact List.mem_of_getElem? hp
    have hl := look_mem hh.rises hpm
    have hk2 : p.1 = ky x.1 := by rw [← hn, ky_ba]
    rw [hk2, a] at hl
    have hi : p.2 = i := (Option.some.inj hl).symm
    rw [hi]
    refine c.trans ?_
    have e1 : leftD m.fl i (amongN ks k) = g.data.take (leftN g.data.length g.sure (amongN ks k)) := by simp [leftD, dataOf, sureOf, lenOf, b]
    rw [e1]
    exact take_pre (leftN_ge _ _ _)
def cutOf (f : Fl) (o : Int) : Fl := ⟨f.data.take (leftN f.data.length f.sure o), leftN f.data.length f.sure o⟩
theorem fallF_get {ks : List Int} {l : List (Key × Nat)} (hn : (l.map (·.2)).Nodup) {fl : List Fl} {k : Nat} {p : Key × Nat} (hp : l[k]? = some p) {f : Fl} (hf : fl[p.2]? = some f) : ∀ n, (fallF ks l fl n)[p.2]? = if k < n then some (cutOf f (amongN ks k)) else some f
  | 0 => by simp [fallF, hf]
  | n + 1 => by
    have ih := fallF_get (ks := ks) hn hp hf n
    have hk : k < l.length := (List.getElem?_eq_some_iff.1 hp).1
    unfold fallF
    cases hq : l[n]? with
    | none =>
      have : l.length ≤ n := List.getElem?_eq_none_iff.1 hq
      simp only
      rw [ih, if_pos (by omega), if_pos (by omega)]
    | some q =>
      simp only
      by_cases e : n = k
      · subst e
        rw [hp] at hq
        cases hq
        rw [if_neg (by omega)] at ih
        rw [if_pos (by omega)]
        unfold cutF
        rw [ih]
        simp only
        have hlt : p.2 < (fallF ks l fl n).length := (List.getElem?_eq_some_iff.1 ih).1
        rw [List.getElem?_set_self hlt]; rfl
      · have hne : q.2 ≠ p.2 := by
          intro e2
          apply e
          have hn' : n < l.length := (List.getElem?_eq_some_iff.1 hq).1
          have h1 : (l.map (·.2))[n]? = (l.map (·.2))[k]? := by rw [List.getElem?_map, List.getElem?_map, hp, hq]; simp [e2]
          exact (List.getElem?_inj (by simpa using hn') hn).1 h1
        have hset : (cutF (fallF ks l fl n) q.2 (amongN ks n))[p.2]? = (fallF ks l fl n)[p.2]? := by
          unfold cutF
          split
          · rw [List.getElem?_set_ne hne]
          · rfl
        rw [hset, ih]
        by_cases h1 : k < n
        · rw [if_pos h1, if_pos (by omega)]
        · rw [if_neg h1, if_neg (by omega)]
theorem cut_len {f : Fl} (hs : f.sure ≤ f.data.length) (o : Int) : (cutOf f o).sure = (cutOf f o).data.length := by
  have := leftN_le hs o
  unfold cutOf
  simp only [List.length_take]
  omega
/-- P3.7: what Image told is what stands behind the fall, all of it sure. -/
theorem fall_files {m : Dm} (hh : Hist m) (hs : ∀ (j : Nat) (f : Fl), m.fl[j]? = some f → f.sure ≤ f.data.length) (dir : Int) (ks : List Int) : (m.fall dir ks).files = m.image dir ks ∧ ∀ p ∈ (m.fall dir ks).now, ∃ f, (m.fall dir ks).fl[p.2]? = some f ∧ f.sure = f.data.length := by
  have hn : ((m.dirAt dir).map (·.2)).Nodup := hh.dirAt dir
  have hid : ∀ p ∈ m.dirAt dir, p.2 < m.fl.length := hh.ids _
  have key : ∀ (k : Nat) (p : Key × Nat), (m.dirAt dir)[k]? = some p → ∃ f, m.fl[p.2]? = some f ∧ (m.fall dir ks).fl[p.2]? = some (cutOf f (amongN ks k)) := fun k p hp => by
    obtain ⟨f, hf⟩ : ∃ f, m.fl[p.2]? = some f := ⟨_, List.getElem?_eq_getElem (hid p (List.mem_of_getElem? hp))⟩
    refine ⟨f, hf, ?_⟩
    have := fallF_get (ks := ks) hn hp hf (m.dirAt dir).length
    rw [if_pos (List.getElem?_eq_some_iff.1 hp).1] at this
    exact this
  refine ⟨List.ext_getElem? fun k => ?_, fun p hp => ?_⟩
  · cases hp : (m.dirAt dir)[k]? with
    | none =>
      have h1 : (m.dirAt dir).length ≤ k := List.getElem?_eq_none_iff.1 hp
      rw [List.getElem?_eq_none (by show ((m.dirAt dir).map _).length ≤ k; rw [List.length_map]; exact h1), List.getElem?_eq_none (by show (told _ _ _).length ≤ k; rw [told_length]; exact h1)]
    | some p =>
      obtain ⟨f, hf, hg⟩ := key k p hp
      have e1 : (m.fall dir ks).files[k]? = some ⟨ba p.1, (cutOf f (amongN ks k)).data, (cutOf f (amongN ks k)).sure⟩ := by
        show ((m.dirAt dir).map _)[k]? = _
        rw [List.getElem?_map, hp]
        simp [dataOf, sureOf, hg]
      have e2 : (m.image dir ks)[k]? = some ⟨ba p.1, leftD m.fl p.2 (amongN ks k), (leftD m.fl p.2 (amongN ks k)).length⟩ := told_get hp
      have e3 : leftD m.fl p.2 (amongN ks k) = (cutOf f (amongN ks k)).data := by simp [leftD, dataOf, sureOf, lenOf, hf, cutOf]
      rw [e1, e2, e3, cut_len (hs _ f hf)]
  · obtain ⟨k, hk⟩ := List.getElem?_of_mem hp
    obtain ⟨f, hf, hg⟩ := key k p hk
    exact ⟨_, hg, cut_len (hs _ f hf) _⟩
/-- Where all is sure and no change stands, each image is what stands. -/
theorem image_sure {m : Dm} (hc : m.ch = []) (hs : ∀ p ∈ m.now, ∃ f, m.fl[p.2]? = some f ∧ f.sure = f.data.length) (dir : Int) (ks : List Int) : m.image dir ks = m.files := by
  have e : m.dirAt dir = m.now := by rw [dirAt_bk]; exact bk_all (by rw [hc]; simp)
  refine List.ext_getElem? fun k => ?_
  cases hp : m.now[k]? with
  | none =>
    have h1 : m.now.length ≤ k := List.getElem?_eq_none_iff.1 hp
    rw [List.getElem?_eq_none (by show (told _ _ _).length ≤ k; rw [told_length, e]; exact h1), List.getElem?_eq_none (by show (m.now.map _).length ≤ k; rw [List.length_map]; exact h1)]
  | some p =>
    obtain ⟨f, hf, h1⟩ := hs p (List.mem_of_getElem? hp)
    have e2 : (m.image dir ks)[k]? = some ⟨ba p.1, leftD m.fl p.2 (amongN ks k), (leftD m.fl p.2 (amongN ks k)).length⟩ := told_get (by rw [e]; exact hp)
    have e3 : leftD m.fl p.2 (amongN ks k) = f.data := by
      have : leftN f.data.length f.sure (amongN ks k) = f.data.length := by unfold leftN; omega
      simp [leftD, dataOf, sureOf, lenOf, hf, this]
    rw [e2, e3]
    show _ = (m.now.map _)[k]?
    rw [List.getElem?_map, hp]
    simp [dataOf, sureOf, hf, h1]
end Dsk
end Go.Proofs.Ytbloifnibgdeoaa
namespace Go.Proofs.Ytbloifnibgdeoaa
namespace Dsk
open Go.RowKit Go.Shelf Go.Maps Go.Sort Byt Laws
set_option linter.unusedVariables false
set_option maxRecDepth 100000
set_option linter.unusedSimpArgs false

/-- A directory whose files are numbered as they stand. -/
def nos (l : List (Key × Nat)) : List (Key × Nat) := l.zipIdx.map fun x => (x.1.1, x.2)
theorem nos_get {l : List (Key × Nat)} {k : Nat} {p : Key × Nat} (h : l[k]? = some p) : (nos l)[k]? = some (p.1, k) := by
  unfold nos
  rw [List.getElem?_map, List.getElem?_zipIdx, h]
  simp
theorem nos_length (l : List (Key × Nat)) : (nos l).length = l.length := by simp [nos]
/-- P3.7 of the reference. -/
def Rm.fall (m : Rm) (dir : Int) (ks : List Int) : Rm := ⟨Rig.zero, m.room, (m.image dir ks).map fun f => ⟨f.data, f.sure⟩, nos (m.rest dir), nos (m.rest dir), [], false⟩
theorem idx_of {l : List (Key × Nat)} (hn : (l.map (·.2)).Nodup) {k : Nat} {p : Key × Nat} (h : l[k]? = some p) : (l.map (·.2)).idxOf p.2 = k := by
  have hk : k < (l.map (·.2)).length := by rw [List.length_map]; exact (List.getElem?_eq_some_iff.1 h).1
  have e : (l.map (·.2))[k]'hk = p.2 := by
    have := (List.getElem?_eq_some_iff.1 h).2
    simp [this]
  rw [← e]
  exact hn.idxOf_getElem k hk
theorem Rel.fall {φ : Nat → Nat} {m : Dm} {r : Rm} (h : Rel φ m r) (hh : Hist m) (hs : ∀ (j : Nat) (f : Fl), m.fl[j]? = some f → f.sure ≤ f.data.length) (dir : Int) (ks : List Int) : ∃ φ', Rel φ' (m.fall dir ks) (r.fall dir ks) := by
  have hn : ((m.dirAt dir).map (·.2)).Nodup := hh.dirAt dir
  have hid : ∀ p ∈ m.dirAt dir, p.2 < m.fl.length := hh.ids _
  have hal : ∀ i, Al (m.fall dir ks) i → ∃ (k : Nat) (p : Key × Nat), (m.dirAt dir)[k]? = some p ∧ p.2 = i := fun i hi => by
    obtain ⟨k, hk, hi⟩ := hi
    have e : (m.fall dir ks).bk k = m.dirAt dir := bk_all (Nat.zero_le _)
    rw [e] at hi
    obtain ⟨p, hp, e2⟩ := List.mem_map.1 hi
    obtain ⟨j, hj⟩ := List.getElem?_of_mem hp
    exact ⟨j, p, hj, e2⟩
  have hnow : nos (r.rest dir) = mp (fun i => ((m.dirAt dir).map (·.2)).idxOf i) (m.dirAt dir) := by
    rw [h.rest]
    refine List.ext_getElem? fun k => ?_
    cases hp : (m.dirAt dir)[k]? with
    | none =>
      have h1 : (m.dirAt dir).length ≤ k := List.getElem?_eq_none_iff.1 hp
      rw [List.getElem?_eq_none (by rw [nos_length, mp_length]; exact h1), List.getElem?_eq_none (by rw [mp_length]; exact h1)]
    | some p =>
      rw [nos_get (mp_get hp), mp_get hp]
      simp only [idx_of hn hp]
  refine ⟨fun i => ((m.dirAt dir).map (fun p : Key × Nat => p.2)).idxOf i, rfl, fun _ => rfl, h.room, rfl, hnow, fun k hk => ?_, fun i j hi hj he => ?_, fun i hi => ?_, fun c hc => by cases hc⟩
  · have hk0 : k = 0 := by have : k ≤ 0 := hk; omega
    subst hk0
    have e : (m.fall dir ks).bk 0 = m.dirAt dir := bk_all (Nat.zero_le _)
    rw [e]
    exact hnow
  · obtain ⟨k, p, hp, rfl⟩ := hal i hi
    obtain ⟨k2, q, hq, rfl⟩ := hal j hj
    have he' : ((m.dirAt dir).map (·.2)).idxOf p.2 = ((m.dirAt dir).map (·.2)).idxOf q.2 := he
    rw [idx_of hn hp, idx_of hn hq] at he'
    subst he'
    rw [hp] at hq
    cases hq
    rfl
  · obtain ⟨k, p, hp, rfl⟩ := hal i hi
    obtain ⟨f, hf⟩ : ∃ f, m.fl[p.2]? = some f := ⟨_, List.getElem?_eq_getElem (hid p (List.mem_of_getElem? hp))⟩
    have hk := (List.getElem?_eq_some_iff.1 hp).1
    show ((r.image dir ks).map fun f => (⟨f.data, f.sure⟩ : Fl))[((m.dirAt dir).map (·.2)).idxOf p.2]? = (fallF ks (m.dirAt dir) m.fl (m.dirAt dir).length)[p.2]?
    rw [idx_of hn hp, fallF_get hn hp hf, if_pos hk, h.image, List.getElem?_map, Dm.image, told_get hp]
    show some (⟨leftD m.fl p.2 (amongN ks k), (leftD m.fl p.2 (amongN ks k)).length⟩ : Fl) = some (cutOf f (amongN ks k))
    have e : leftD m.fl p.2 (amongN ks k) = f.data.take (leftN f.data.length f.sure (amongN ks k)) := by simp [leftD, dataOf, sureOf, Dsk.lenOf, hf]
    have e2 := leftN_le (hs _ _ hf) (amongN ks k)
    rw [e]
    unfold cutOf
    rw [List.length_take, Nat.min_eq_left e2]
end Dsk
end Go.Proofs.Ytbloifnibgdeoaa
namespace Go.Proofs.Ytbloifnibgdeoaa
namespace Dsk
open Go.RowKit Go.Shelf Go.Maps Go.Sort Byt Laws
set_option linter.unusedVariables false
set_option maxRecDepth 100000
set_option linter.unusedSimpArgs false

section
variable {T : Nat → Nat} {w w0 w2 : World} {d : Nat} {fb : Nat → Nat} {m : Rm} {vf vn vs vc : Value}
/-- A file more, whose bytes lie already. -/
theorem Rd.born2 (h : Rd T w d fb m vf vn vs vc) {f : Fl} {a1 : Option Addr} {c1 g c2 : Nat} (hhb : Hb w a1 c1 f.data) (h0 : ∀ ad, a1 = some ad → T ad.block = 0 ∧ ad.block < w.heap.size) (hsu : f.sure ≤ f.data.length) (hbig : f.data.length ≤ 2147483648) (hl : m.fl.length < 100000000)
    (k0 : Keep [] w w0) (hs0 : w.heap.size < w0.heap.size) (hfile : w0.heap[w.heap.size]? = some (.cells #[.slice a1 f.data.length c1, .int .i64 f.sure] 100))
    (hown : w2.ownsRow 0 96 1 (.slice (some ⟨g, 0, none⟩) (m.fl.length + 1) c2) (m.fl.length + 1) (ptrRow fb m.fl.length ++ [.pointer (some ⟨w.heap.size, 0, none⟩)])) (hg : w0.grownBy w2 vf.ownBlock) (hat : vf.ownBlock = some g ∨ w.heap.size < g) :
    ∃ T', Rd T' (w2.setCell ⟨d, 1, none⟩ (.slice (some ⟨g, 0, none⟩) (m.fl.length + 1) c2)) d (upd fb m.fl.length w.heap.size) { m with fl := m.fl ++ [f] } (.slice (some ⟨g, 0, none⟩) (m.fl.length + 1) c2) vn vs vc ∧ Keep (d :: vf.ownBlock.toList) w (w2.setCell ⟨d, 1, none⟩ (.slice (some ⟨g, 0, none⟩) (m.fl.length + 1) c2)) ∧ ∀ b, b < w.heap.size → (∀ ad, a1 = some ad → ad.block ≠ b) → T' b = T b := by
  have htd := h.td
  have hdlt : d < w.heap.size := h.top.1
  have kk : Keep vf.ownBlock.toList w w2 := (k0.mono (by simp)).trans (Keep.grown hg)
  have kg : Keep vf.ownBlock.toList w0 w2 := Keep.grown hg
  have hs2 : w.heap.size < w2.heap.size := Nat.lt_of_lt_of_le hs0 kg.size
  have hglt : g < w2.heap.size := (hown.lt g rfl).2
  have hvf : ∀ b, vf.ownBlock = some b → b < w.heap.size ∧ T b = 2 := fun b e => ⟨(h.fls.lt b e).2, h.tf b e⟩
  have hg2 : g < w.heap.size → T g = 2 := fun hlt => by
    rcases hat with e | e
    · exact (hvf g e).2
    · omega
  obtain ⟨T', hT⟩ : ∃ T' : Nat → Nat, T' = fun x => if x = w.heap.size then 10 + 2 * m.fl.length else if x = g then 2 else if (Value.slice a1 f.data.length c1).ownBlock = some x then 11 + 2 * m.fl.length else T x := ⟨_, rfl⟩
  have hgne : g ≠ w.heap.size := by
    rcases hat with e | e
    · have := (hvf g e).1; omega
    · omega
  have ha1 : ∀ x, (Value.slice a1 f.data.length c1).ownBlock = some x → ∃ ad, a1 = some ad ∧ ad.block = x := fun x e => by
    cases a1 with
    | none => cases e
    | some ad => exact ⟨ad, rfl, by simpa [Value.ownBlock] using e⟩
  have ht : ∀ x, x < w.heap.size → T x ≠ 0 → T' x = T x := fun x hx h1 => by
    rw [hT]; simp only
    rw [if_neg (by omega)]
    by_cases e : x = g
    · rw [if_pos e, e, hg2 (by omega)]
    · rw [if_neg e, if_neg (fun e2 => by obtain ⟨ad, e3, e4⟩ := ha1 x e2; have := (h0 ad e3).1; rw [e4] at this; exact h1 this)]
  have ht2 : ∀ b, b < w.heap.size → (∀ ad, a1 = some ad → ad.block ≠ b) → T' b = T b := fun x hx h1 => by
    rw [hT]; simp only
    rw [if_neg (by omega)]
    by_cases e : x = g
    · rw [if_pos e, e, hg2 (by omega)]
    · rw [if_neg e, if_neg (fun e2 => by obtain ⟨ad, e3, e4⟩ := ha1 x e2; exact h1 ad e3 e4)]
  have kd : Keep [d] w2 (w2.setCell ⟨d, 1, none⟩ (.slice (some ⟨g, 0, none⟩) (m.fl.length + 1) c2)) := Keep.set _ _ _ _
  have ka : Keep (d :: vf.ownBlock.toList) w (w2.setCell ⟨d, 1, none⟩ (.slice (some ⟨g, 0, none⟩) (m.fl.length + 1) c2)) := (kk.mono (fun b hb => by simp at hb; simp [hb])).trans (kd.mono (fun b hb => by simp at hb; simp [hb]))
  have hin : ∀ x ∈ (d :: vf.ownBlock.toList), x < w.heap.size ∧ (T x = 1 ∨ T x = 2) := fun x hx => by
    simp only [List.mem_cons, Option.mem_toList] at hx
    rcases hx with rfl | hx
    · exact ⟨hdlt, .inl htd⟩
    · exact ⟨(hvf x hx).1, .inr (hvf x hx).2⟩
  have hin' : ∀ x ∈ (d :: vf.ownBlock.toList), T' x = 1 ∨ T' x = 2 := fun x hx => by
    obtain ⟨h1, h2⟩ := hin x hx
    rw [ht x h1 (by omega)]; exact h2
  have hdn : d ∉ vf.ownBlock.toList := fun hm => by have := (hvf d (by simpa using hm)).2; omega
  have hx : ∀ {v : Value} {t : Nat}, 2 < t → (∀ b, v.ownBlock = some b → T b = t) → ∀ b, v.ownBlock = some b → b ∉ (d :: vf.ownBlock.toList) := fun ht hv b hb hm => by
    have h1 := hv b hb
    have := (hin b hm).2
    omega
  have tg : ∀ {v : Value} {t : Nat}, 0 < t → (∀ b, v.ownBlock = some b → b < w.heap.size) → (∀ b, v.ownBlock = some b → T b = t) → ∀ b, v.ownBlock = some b → T' b = t := fun h9 hlt hv b hb => by rw [ht b (hlt b hb) (by rw [hv b hb]; omega)]; exact hv b hb
  have hfb : ∀ j, j < m.fl.length → upd fb m.fl.length w.heap.size j = fb j := fun j hj => upd_other _ _ (by omega)
  have hTn : T' w.heap.size = 10 + 2 * m.fl.length := by rw [hT]; simp
  refine ⟨T', ⟨?_, by rw [ht d hdlt (by omega)]; exact htd, fun b hb' => ?_, ?_, fun b e => ?_, ka.own h.dir (hx (by omega) h.tn), tg (by omega) (fun b e => (h.dir.lt b e).2) h.tn, ka.own h.sur (hx (by omega) h.ts), tg (by omega) (fun b e => (h.sur.lt b e).2) h.ts, ka.own h.chg (hx (by omega) h.tc), tg (by omega) (fun b e => (h.chg.lt b e).2) h.tc, ?_, h.rises, h.risesS, fun p hp => ?_, fun p hp => ?_, h.room, h.most, h.mostS, ?_, h.rok⟩, ka, ht2⟩
  · exact ((h.top.keep kk hdn).set 1 (by omega) _).eq (ten rfl rfl rfl rfl rfl rfl rfl rfl rfl rfl)
  · have hb2 : w2.heap.size ≤ b := by simpa using hb'
    rw [hT]; simp only
    rw [if_neg (by omega), if_neg (by omega), if_neg (fun e2 => by obtain ⟨ad, e3, e4⟩ := ha1 b e2; have := (h0 ad e3).2; omega)]
    exact h.fresh b (by omega)
  · have e : ptrRow (upd fb m.fl.length w.heap.size) (m.fl ++ [f]).length = ptrRow fb m.fl.length ++ [.pointer (some ⟨w.heap.size, 0, none⟩)] := by
      rw [List.length_append, List.length_singleton, ptrRow_snoc, upd_same]
      congr 1
      unfold ptrRow
      refine List.map_congr_left (fun i hi => ?_)
      rw [hfb i (by simpa using hi)]
    have hl2 : (m.fl ++ [f]).length = m.fl.length + 1 := by simp
    show World.ownsRow _ 0 _ 1 _ (m.fl ++ [f]).length (ptrRow _ (m.fl ++ [f]).length)
    rw [e, hl2]
    refine kd.own hown (fun b e hm => ?_)
    simp at hm
    have e' : g = b := by simpa [Value.ownBlock] using e
    have h1 := hg2 (by rw [e', hm]; exact hdlt)
    rw [e', hm, htd] at h1
    omega
  · have e' : g = b := by simpa [Value.ownBlock] using e
    rw [← e', hT]; simp only
    rw [if_neg hgne]
    simp
  · intro j q hj
    have hj' : (m.fl ++ [f])[j]? = some q := hj
    by_cases e : j < m.fl.length
    · rw [List.getElem?_append_left e] at hj'
      rw [hfb j e]
      obtain ⟨a, c, hf⟩ := h.file j q hj'
      have hf' : FileAt T' w (fb j) j q a c := ⟨by rw [ht _ hf.fld.1 (by rw [hf.tag]; omega)]; exact hf.tag, hf.fld, hf.own, fun ad e2 => by have z := hf.mine ad e2; rw [ht ad.block (hf.own.lt ad.block (by rw [e2]; rfl)) (by rw [z]; omega)]; exact z, hf.sure, hf.big⟩
      exact ⟨a, c, hf'.keep ka (fun x hx => by have := hin' x hx; omega) (fun x hx => by have := hin' x hx; omega)⟩
    · have hjl := (List.getElem?_eq_some_iff.1 hj').1
      simp at hjl
      have hje : j = m.fl.length := by omega
      subst hje
      simp at hj'
      subst hj'
      rw [upd_same]
      have hnb : ∀ x ∈ (d :: vf.ownBlock.toList), x ≠ w.heap.size := fun x hx e => by have := (hin x hx).1; omega
      have kgd : Keep (d :: vf.ownBlock.toList) w0 (w2.setCell ⟨d, 1, none⟩ (.slice (some ⟨g, 0, none⟩) (m.fl.length + 1) c2)) := (kg.mono (fun b hb => by simp at hb; simp [hb])).trans (kd.mono (fun b hb => by simp at hb; simp [hb]))
      have hbk := (kgd.block _ hs0 (fun hm => hnb _ hm rfl)).trans hfile
      have hno : ∀ x, (Value.slice a1 f.data.length c1).ownBlock = some x → x ∉ (d :: vf.ownBlock.toList) := fun x e2 hm => by
        obtain ⟨ad, e3, e4⟩ := ha1 x e2
        have h5 := (h0 ad e3).1
        have h6 := (hin x hm).2
        rw [e4] at h5
        omega
      refine ⟨a1, c1, ⟨hTn, fld_of_block hbk (fun j hj => by
        match j, hj with
        | 0, _ => rfl
        | 1, _ => rfl), hhb.keep ka hno, fun ad e2 => ?_, hsu, hbig⟩⟩
      have h7 := h0 ad e2
      rw [hT]; simp only
      rw [if_neg (by omega), if_neg (fun e3 => ?_), if_pos (by rw [e2]; rfl)]
      have := hg2 (by omega)
      rw [← e3, h7.1] at this
      omega
  · show p.2 < (m.fl ++ [f]).length
    have := h.ids p hp
    simp; omega
  · show p.2 < (m.fl ++ [f]).length
    have := h.idsS p hp
    simp; omega
  · show (m.fl ++ [f]).length ≤ 100000000
    simp; omega
end
/-- Files that were told stand while other blocks turn. -/
theorem FilesAt.keep {base : Nat} {w w' : World} {v : Value} {fs : List Fi} {ds : List (Option Addr × Nat)} {bs : List Nat} (h : FilesAt base w v fs ds) (hk : Keep bs w w') (hv : ∀ b, v.ownBlock = some b → b ∉ bs) (hd : ∀ (i : Nat) (x : Option Addr × Nat) (ad : Addr), ds[i]? = some x → x.1 = some ad → ad.block ∉ bs) : FilesAt base w' v fs ds :=
  ⟨h.len, hk.own h.row hv, fun i f x hf hx => ⟨⟨hk.own (h.data i f x hf hx).1.row (fun b hb => by
    cases hx1 : x.1 with
    | none => rw [hx1] at hb; cases hb
    | some ad =>
      rw [hx1] at hb
      have e : ad.block = b := by simpa [Value.ownBlock] using hb
      rw [← e]
      exact hd i x ad hx hx1), (h.data i f x hf hx).1.byte⟩, (h.data i f x hf hx).2⟩⟩
end Dsk
end Go.Proofs.Ytbloifnibgdeoaa
namespace Go.Proofs.Ytbloifnibgdeoaa
namespace Dsk
open Go.RowKit Go.Shelf Go.Maps Go.Sort Byt Laws
set_option linter.unusedVariables false
set_option maxRecDepth 100000
set_option linter.unusedSimpArgs false

def fls (IM : List Fi) : List Fl := IM.map fun f => ⟨f.data, f.sure⟩
theorem fls_take {IM : List Fi} {k : Nat} {f : Fi} (h : IM[k]? = some f) : fls (IM.take (k + 1)) = fls (IM.take k) ++ [⟨f.data, f.sure⟩] := by
  unfold fls
  rw [List.take_add_one, h]
  simp
theorem fls_len {IM : List Fi} {k : Nat} (h : k ≤ IM.length) : (fls (IM.take k)).length = k := by
  unfold fls
  rw [List.length_map, List.length_take]
  omega
theorem nos_take {l : List (Key × Nat)} {k : Nat} {p : Key × Nat} (h : l[k]? = some p) : nos (l.take (k + 1)) = nos (l.take k) ++ [(p.1, k)] := by
  have hk := (List.getElem?_eq_some_iff.1 h).1
  unfold nos
  rw [List.take_add_one, h]
  simp [List.zipIdx_append]
  omega
theorem rises_nos : ∀ {l : List (Key × Nat)}, Rises l → Rises (nos l) := by
  intro l h
  unfold Rises at *
  rw [List.pairwise_iff_getElem] at *
  intro i j hi hj hij
  have hi' : i < l.length := by rw [nos_length] at hi; exact hi
  have hj' : j < l.length := by rw [nos_length] at hj; exact hj
  have e1 := nos_get (List.getElem?_eq_getElem hi')
  have e2 := nos_get (List.getElem?_eq_getElem hj')
  rw [List.getElem?_eq_getElem hi] at e1
  rw [List.getElem?_eq_getElem hj] at e2
  rw [Option.some.inj e1, Option.some.inj e2]
  exact h i j hi' hj' hij
theorem rises_take {l : List (Key × Nat)} (h : Rises l) (k : Nat) : Rises (l.take k) := List.Pairwise.sublist (List.take_sublist k l) h
theorem ids_nos {l : List (Key × Nat)} : ∀ p ∈ nos l, p.2 < l.length := fun p hp => by
  obtain ⟨k, hk⟩ := List.getElem?_of_mem hp
  have hlt := (List.getElem?_eq_some_iff.1 hk).1
  rw [nos_length] at hlt
  rw [nos_get (List.getElem?_eq_getElem hlt)] at hk
  cases hk
  exact hlt
theorem enRow_one1 (k : Key) (i : Nat) : enRow [(k, i)] = [.string (ofK k), .int .i64 i] := rfl
/-- What the loop of Fall has. -/
structure FallI (w : World) (eb room L : Nat) (IM : List Fi) (rs : List (Key × Nat)) (al : Option Addr) (cl : Nat) (ds : List (Option Addr × Nat)) (k kn : Nat) (S : Nat → Nat) (fb : Nat → Nat) (vf vn : Value) (wr : World) : Prop where
  rd : Rd S wr eb fb ⟨Rig.zero, room, fls (IM.take k), nos (rs.take kn), [], [], false⟩ vf vn (.slice none 0 0) (.slice none 0 0)
  fa : FilesAt w.heap.size wr (.slice al L cl) IM ds
  low : ∀ b, b < eb → S b ≠ 0 → ∃ (j : Nat) (x : Option Addr × Nat) (ad : Addr), j < k ∧ ds[j]? = some x ∧ x.1 = some ad ∧ ad.block = b
  below : Below w.heap.size w wr
  ge : w.heap.size ≤ eb
  vfg : ∀ b, vf.ownBlock = some b → eb ≤ b
  vng : ∀ b, vn.ownBlock = some b → eb ≤ b
/-- A file more. -/
theorem FallI.file {w wr w0 w7 : World} {eb room L k g c7 cl : Nat} {IM : List Fi} {rs : List (Key × Nat)} {al : Option Addr} {ds : List (Option Addr × Nat)} {S : Nat → Nat} {fb : Nat → Nat} {vf vn : Value} {f : Fi} {x : Option Addr × Nat} {we : World}
    (h : FallI w eb room L IM rs al cl ds k k S fb vf vn wr) (hinc : Inc ds we) (heb : we.heap.size = eb) (hal : ∀ ad, al = some ad → ad.block < eb) (hf : IM[k]? = some f) (hx : ds[k]? = some x) (hk : k < 9000001) (hsu : f.sure ≤ f.data.length) (hbig : f.data.length ≤ 2147483648)
    (k0 : Keep [] wr w0) (hs0 : wr.heap.size < w0.heap.size) (hfile : w0.heap[wr.heap.size]? = some (.cells #[.slice x.1 f.data.length x.2, .int .i64 f.sure] 100))
    (hown : w7.ownsRow 0 96 1 (.slice (some ⟨g, 0, none⟩) (k + 1) c7) (k + 1) (ptrRow fb k ++ [.pointer (some ⟨wr.heap.size, 0, none⟩)])) (hg : w0.grownBy w7 vf.ownBlock) (hat : vf.ownBlock = some g ∨ wr.heap.size < g) :
    ∃ S', FallI w eb room L IM rs al cl ds (k + 1) k S' (upd fb k wr.heap.size) (.slice (some ⟨g, 0, none⟩) (k + 1) c7) vn (w7.setCell ⟨eb, 1, none⟩ (.slice (some ⟨g, 0, none⟩) (k + 1) c7)) := by
  have hkl : k < IM.length := (List.getElem?_eq_some_iff.1 hf).1
  have hlen : (fls (IM.take k)).length = k := fls_len (by omega)
  have hebw : eb < wr.heap.size := h.rd.top.1
  have hdz : ∀ ad, x.1 = some ad → S ad.block = 0 ∧ ad.block < eb := fun ad e => by
    have hlt : ad.block < eb := by rw [← heb]; exact hinc.1 k x ad hx e
    refine ⟨Decidable.byContradiction fun hn => ?_, hlt⟩
    obtain ⟨j, y, bd, hj, hy, ey, e2⟩ := h.low _ hlt hn
    have := hinc.2 j k y x bd ad hj hy hx ey e
    omega
  obtain ⟨S', r1, r2, r3⟩ := h.rd.born2 (f := ⟨f.data, f.sure⟩) (a1 := x.1) (c1 := x.2) (g := g) (c2 := c7) (Hb.of (((h.fa.data k f x hf hx).1).lower (Nat.zero_le _))) (fun ad e => ⟨(hdz ad e).1, Nat.lt_trans (hdz ad e).2 hebw⟩) hsu hbig (by rw [hlen]; omega) k0 hs0 hfile (by rw [hlen]; exact hown) hg hat
  have hlen' : (⟨Rig.zero, room, fls (IM.take k), nos (rs.take k), [], [], false⟩ : Rm).fl.length = k := hlen
  rw [hlen'] at r1 r2
  have hls : ∀ b, (Value.slice al L cl).ownBlock = some b → S b = 0 ∧ b < eb := fun b e => by
    obtain ⟨ad, ea, e2⟩ : ∃ ad, al = some ad ∧ ad.block = b := by
      cases al with
      | none => cases e
      | some ad => exact ⟨ad, rfl, by simpa [Value.ownBlock] using e⟩
    have hlt : b < eb := by rw [← e2]; exact hal ad ea
    refine ⟨Decidable.byContradiction fun hn => ?_, hlt⟩
    obtain ⟨j, y, bd, hj, hy, ey, e3⟩ := h.low _ hlt hn
    have hjl : j < IM.length := by omega
    exact (h.fa.data j _ y (List.getElem?_eq_getElem hjl) hy).2 bd ey (by rw [e, e3])
  have hin : ∀ b ∈ (eb :: vf.ownBlock.toList), S b = 1 ∨ S b = 2 := fun b hb => by
    simp only [List.mem_cons, Option.mem_toList] at hb
    rcases hb with rfl | hb
    · exact .inl h.rd.td
    · exact .inr (h.rd.tf b hb)
  refine ⟨S', ⟨by rw [fls_take hf]; exact r1, h.fa.keep r2 (fun b e hm => ?_) (fun i y ad hy e hm => ?_), fun b hb hne => ?_, ?_, h.ge, fun b e => ?_, h.vng⟩⟩
  · have h1 := (hls b e).1
    have := hin b hm
    omega
  · have hlt : ad.block < eb := by rw [← heb]; exact hinc.1 i y ad hy e
    simp only [List.mem_cons, Option.mem_toList] at hm
    rcases hm with hm | hm
    · omega
    · have := h.vfg _ hm; omega
  · by_cases he : ∃ ad, x.1 = some ad ∧ ad.block = b
    · obtain ⟨ad, e1, e2⟩ := he
      exact ⟨k, x, ad, Nat.lt_succ_self k, hx, e1, e2⟩
    · rw [r3 b (by omega) (fun ad e1 e2 => he ⟨ad, e1, e2⟩)] at hne
      obtain ⟨j, y, bd, hj, hr⟩ := h.low b hb hne
      exact ⟨j, y, bd, by omega, hr⟩
  · exact below_keep h.below r2 (fun b hb => by
      simp only [List.mem_cons, Option.mem_toList] at hb
      rcases hb with rfl | hb
      · exact h.ge
      · exact Nat.le_trans h.ge (h.vfg b hb))
  · have e' : g = b := by simpa [Value.ownBlock] using e
    rcases hat with h1 | h1
    · exact h.vfg b (by rw [h1, e'])
    · omega
/-- A name more. -/
theorem FallI.name {w wr w7 : World} {eb room L k g c7 cl : Nat} {IM : List Fi} {rs : List (Key × Nat)} {al : Option Addr} {ds : List (Option Addr × Nat)} {S : Nat → Nat} {fb : Nat → Nat} {vf vn : Value} {p : Key × Nat} {we : World}
    (h : FallI w eb room L IM rs al cl ds (k + 1) k S fb vf vn wr) (hinc : Inc ds we) (heb : we.heap.size = eb) (hal : ∀ ad, al = some ad → ad.block < eb) (hI : k < IM.length) (hp : rs[k]? = some p) (hr : Rises rs) (hk : k < 8999999)
    (hown : w7.ownsRow 0 98 2 (.slice (some ⟨g, 0, none⟩) (k + 1) c7) (k + 1) (enRow (nos (rs.take k)) ++ [.string (ofK p.1), .int .i64 (k : Nat)])) (kk : Keep vn.ownBlock.toList wr w7) (hat : vn.ownBlock = some g ∨ wr.heap.size ≤ g) :
    ∃ S', FallI w eb room L IM rs al cl ds (k + 1) (k + 1) S' fb vf (.slice (some ⟨g, 0, none⟩) (k + 1) c7) (w7.setCell ⟨eb, 2, none⟩ (.slice (some ⟨g, 0, none⟩) (k + 1) c7)) := by
  have hkr : k < rs.length := (List.getElem?_eq_some_iff.1 hp).1
  have hebw : eb < wr.heap.size := h.rd.top.1
  have hnl : (nos (rs.take (k + 1))).length = k + 1 := by rw [nos_length, List.length_take]; omega
  have hrow : enRow (nos (rs.take (k + 1))) = enRow (nos (rs.take k)) ++ [.string (ofK p.1), .int .i64 (k : Nat)] := by rw [nos_take hp, enRow_append]; rfl
  have kd : Keep [eb] w7 (w7.setCell ⟨eb, 2, none⟩ (.slice (some ⟨g, 0, none⟩) (k + 1) c7)) := Keep.set _ _ _ _
  have ka : Keep (eb :: vn.ownBlock.toList) wr (w7.setCell ⟨eb, 2, none⟩ (.slice (some ⟨g, 0, none⟩) (k + 1) c7)) := (kk.mono (fun b hb => by simp at hb; simp [hb])).trans (kd.mono (fun b hb => by simp at hb; simp [hb]))
  obtain ⟨S', r1, r2⟩ := h.rd.dirs (l' := nos (rs.take (k + 1))) (v' := .slice (some ⟨g, 0, none⟩) (k + 1) c7) (by rw [hnl, hrow]; exact hown) kk (fun b e => by have e' : g = b := (by simpa [Value.ownBlock] using e); rw [← e']; exact hat) (rises_nos (rises_take hr _)) (fun q hq => by
    have z := ids_nos q hq
    rw [List.length_take] at z
    show q.2 < (fls (IM.take (k + 1))).length
    rw [fls_len (by omega)]
    omega) (by rw [hnl]; omega)
  have hge : ∀ b ∈ (eb :: vn.ownBlock.toList), eb ≤ b := fun b hb => by
    simp only [List.mem_cons, Option.mem_toList] at hb
    rcases hb with rfl | hb
    · exact Nat.le_refl _
    · exact h.vng b hb
  have hal' : ∀ b, (Value.slice al L cl).ownBlock = some b → b < eb := fun b e => by
    cases al with
    | none => cases e
    | some ad => have := hal ad rfl; have e2 : ad.block = b := (by simpa [Value.ownBlock] using e); omega
  refine ⟨S', ⟨r1, h.fa.keep ka (fun b e hm => ?_) (fun i y ad hy e hm => ?_), fun b hb hne => ?_, below_keep h.below ka (fun b hb => Nat.le_trans h.ge (hge b hb)), h.ge, h.vfg, fun b e => ?_⟩⟩
  · have := hal' b e; have := hge b hm; omega
  · have hlt : ad.block < eb := by rw [← heb]; exact hinc.1 i y ad hy e
    have := hge _ hm
    omega
  · exact h.low b hb (fun h0 => hne (r2.block b (by omega) h0).2)
  · have e' : g = b := by simpa [Value.ownBlock] using e
    rcases hat with h1 | h1
    · exact h.vng b (by rw [h1, e'])
    · omega
end Dsk
end Go.Proofs.Ytbloifnibgdeoaa
