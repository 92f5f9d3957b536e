import Derived.Test.YtbloifnibgdeoaaDp5
import Derived.Test.YtbloifnibgdeoaaDKno
import Derived.Deep.CutRange
import Derived.Deep.CutBlock
import Derived.Deep.DeepCutAuto
import Derived.Deep.RegionHeld3
import Derived.BigQuiet
import Derived.WalkKit
import Derived.Test.YtbloifnibgdeoaaRows
import Derived.Test.YtbloifnibgdeoaaOpF
import Derived.ProofKit
import Derived.OpenShut
import Derived.ShutString
import Derived.SizedLaws
import Derived.Below
namespace Go.Proofs.Ytbloifnibgdeoaa
namespace Dsk
open Go.RowKit Go.Shelf Go.Maps Go.Sort Byt Laws
set_option linter.unusedVariables false
set_option maxRecDepth 100000
set_option linter.unusedSimpArgs false
attribute [local go_sem ↓] Go.wp_at_zero Go.wp_at_succ

/-- A law's walk over a pair, between the calls of its two disks. -/
structure Pw (w : World) (T S : Nat → Nat) (W : World) (d mb : Nat) (fb : Nat → Nat) (m : Dm) (r : Nat) (rm : Rm) (P : Nat) : Prop where
  two : Two T S W d mb fb m r rm
  low : ∀ b, b < w.heap.size → ts T S b = 0
  go : Below w.heap.size w W
  p0 : W.cell? ⟨P, 0, none⟩ = some (.pointer (some ⟨d, 0, none⟩))
  p1 : W.cell? ⟨P, 1, none⟩ = some (.pointer (some ⟨r, 0, none⟩))
  pt : ts T S P = 0
section
variable {w : World} {T S T' S' : Nat → Nat} {W W' : World} {d mb : Nat} {fb fb' : Nat → Nat} {m m' : Dm} {r : Nat} {rm rm' : Rm} {P c : Nat}
theorem Pz.pw (h : Pz w T S W d mb fb m r rm P c) : Pw w T S W d mb fb m r rm P := ⟨h.pair.two, h.low, h.go, h.p0, h.p1, h.pt⟩
theorem Pw.step (h : Pw w T S W d mb fb m r rm P) (two' : Two T' S' W' d mb fb' m' r rm') (g2 : Go2 T S T' S' W W') : Pw w T' S' W' d mb fb' m' r rm' P := by
  have g := g2.goes
  obtain ⟨o1, o2⟩ := Goes.old h.go h.low g
  exact ⟨two', o2, o1, cell_goes h.p0 h.pt g, cell_goes h.p1 h.pt g, (g.block P (World.block_lt_of_cell? W _ h.p0) h.pt).2⟩
theorem Pw.below (h : Pw w T S W d mb fb m r rm P) (hb : Below W.heap.size W W') : Pw w T S W' d mb fb m r rm P := h.step (h.two.below hb) (Go2.below hb)
theorem Pw.prog (h : Pw w T S W d mb fb m r rm P) (hp : Pd T' W' d mb fb' m') (g : Goes T T' W W') : Pw w T' S W' d mb fb' m' r rm P := h.step (h.two.prog hp g).1 (h.two.prog hp g).2
theorem Pw.ref (h : Pw w T S W d mb fb m r rm P) (hr : Re S' W' r rm') (g : Goes S S' W W') : Pw w T S' W' d mb fb m r rm' P := h.step (h.two.ref hr g).1 (h.two.ref hr g).2
theorem Pw.pz (h : Pw w T S W d mb fb m r rm P) (rel : ∃ φ, Rel φ m rm) (hist : Hist m) (szs : m.now.length + 2 * m.ch.length ≤ 8388608 + 3 * c ∧ m.ch.length ≤ c ∧ rm.fl.length ≤ 8388608 + 3 * c) : Pz w T S W d mb fb m r rm P c := ⟨⟨h.two, rel, hist, szs⟩, h.low, h.go, h.p0, h.p1, h.pt⟩
theorem Pw.cells (h : Pw w T S W d mb fb m r rm P) : W.cell? ⟨P, 0, none⟩ = some (.pointer (some ⟨d, 0, none⟩)) ∧ W.cell? ⟨P, 1, none⟩ = some (.pointer (some ⟨r, 0, none⟩)) := ⟨h.p0, h.p1⟩
theorem Pz.cells (h : Pz w T S W d mb fb m r rm P c) : W.cell? ⟨P, 0, none⟩ = some (.pointer (some ⟨d, 0, none⟩)) ∧ W.cell? ⟨P, 1, none⟩ = some (.pointer (some ⟨r, 0, none⟩)) := ⟨h.p0, h.p1⟩
/-- Files of both, and that the law takes them for the same. -/
theorem Pz.filC (h : Pz w T S W d mb fb m r rm P c) (hc : c ≤ 1000) {X : World} (hX : Below W.heap.size W X) :
    Calls Try.prog 13 #[.pointer (some ⟨d, 0, none⟩)] X fun e w' => ∃ v, e = .returned v ∧ Below W.heap.size W w' ∧ Calls Try.prog 14 #[.pointer (some ⟨r, 0, none⟩)] w' fun e w'' => ∃ v', e = .returned v' ∧ Below W.heap.size W w'' ∧ Calls Try.prog 12 #[v, v'] w'' fun e w3 => e = .returned (.bool true) ∧ Below W.heap.size W w3 := by
  have s := h.pair.szs
  obtain ⟨φ, hr⟩ := h.pair.rel
  refine (files_any (h.pair.two.below hX).pd).mono ?_
  rintro e w' ⟨v, dsv, rfl, hfv, hb⟩
  have hb' := keepZ hb hX
  refine ⟨v, rfl, hb', ?_⟩
  refine (Re.files_any (h.pair.two.below hb').re (by rw [hr.len]; omega)).mono ?_
  rintro e w'' ⟨v', dsv', rfl, hfv', hb2⟩
  have hb'' := keepZ hb2 hb'
  refine ⟨v', rfl, hb'', ?_⟩
  rw [hr.files] at hfv'
  refine (sameFiles_true _ _ v v' _ dsv dsv' w'' (hfv.below hb2) hfv' (by show (m.now.map _).length ≤ _; rw [List.length_map]; omega) (files_big h.pair.two.pd)).mono ?_
  rintro e w3 ⟨rfl, k, rfl⟩
  exact ⟨rfl, below_drewN hb'' _⟩
/-- Image of both, likewise; the reference's list may be another one that says the same. -/
theorem Pz.imgC (h : Pz w T S W d mb fb m r rm P c) (hc : c ≤ 1000) (dir : Int) (hdir : dir ≤ 9223372036854775807) (ks : List Int) (hkw : ∀ x ∈ ks, x ≤ 9223372036854775807) (n : Nat) (hn : n = ks.length) {X : World} (hX : Below W.heap.size W X) (a : Option Addr) (ca : Nat) (ha : IntsAt X a ks) (hca : n ≤ ca) (hca2 : ca ≤ 9223372036854775807) :
    Calls Try.prog 17 #[.pointer (some ⟨d, 0, none⟩), .int .i64 dir, .slice a n ca] X fun e w' => ∃ v, e = .returned v ∧ Below W.heap.size W w' ∧ Below X.heap.size X w' ∧ ∀ Y, Below w'.heap.size w' Y → ∀ a' ca', IntsAt Y a' ks → n ≤ ca' → ca' ≤ 9223372036854775807 → Calls Try.prog 18 #[.pointer (some ⟨r, 0, none⟩), .int .i64 dir, .slice a' n ca'] Y fun e w'' => ∃ v', e = .returned v' ∧ Below W.heap.size W w'' ∧ Calls Try.prog 12 #[v, v'] w'' fun e w3 => e = .returned (.bool true) ∧ Below W.heap.size W w3 := by
  subst hn
  have s := h.pair.szs
  obtain ⟨φ, hr⟩ := h.pair.rel
  refine (image_any (h.pair.two.below hX).pd dir a ca ks ha hca hca2 hkw (by omega) (by omega)).mono ?_
  rintro e w' ⟨v, dsv, rfl, hfv, hb⟩
  have hb' := keepZ hb hX
  refine ⟨v, rfl, hb', hb, fun Y hY a' ca' ha' hca' hca2' => ?_⟩
  have hbY : Below W.heap.size W Y := keepZ hY hb'
  refine (rimage_any (h.pair.two.below hbY).re (by rw [hr.len]; omega) hr.kinds dir hdir (hr.restIds h.pair.hist dir) a' ca' ks ha' hca' hca2' hkw).mono ?_
  rintro e w'' ⟨v', dsv', rfl, hfv', hb2, _⟩
  have hb'' := keepZ hb2 hbY
  refine ⟨v', rfl, hb'', ?_⟩
  rw [hr.image] at hfv'
  refine (sameFiles_true _ _ v v' _ dsv dsv' w'' (hfv.below (hY.trans (hb2.mono hY.size))) hfv' (by have z := image_le m dir ks; omega) (h.pair.two.pd.image_big dir ks)).mono ?_
  rintro e w3 ⟨rfl, k, rfl⟩
  exact ⟨rfl, below_drewN hb'' _⟩
/-- Down and Fell say one thing. -/
theorem Pz.downC (h : Pz w T S W d mb fb m r rm P c) {X : World} (hX : Below W.heap.size W X) :
    Calls Try.prog 15 #[.pointer (some ⟨d, 0, none⟩)] X fun e w' => e = .returned (.bool m.down) ∧ w' = X := down_any (h.pair.two.below hX).pd
theorem Pz.fellC (h : Pz w T S W d mb fb m r rm P c) {X : World} (hX : Below W.heap.size W X) :
    Calls Try.prog 16 #[.pointer (some ⟨r, 0, none⟩)] X fun e w' => e = .returned (.bool m.down) ∧ w' = X := by
  obtain ⟨φ, hr⟩ := h.pair.rel
  have z := Re.fell_any (h.pair.two.below hX).re
  rw [hr.down] at z
  exact z
end
/-- A list of numbers in a block. -/
theorem ints_cells {W : World} {g : Nat} {cs : List Int} (h : ∀ (j : Nat) (x : Int), cs[j]? = some x → W.cell? ⟨g, j, none⟩ = some (.int .i64 x)) : IntsAt W (some ⟨g, 0, none⟩) cs := fun j x hx => ⟨g, 0, rfl, by rw [Nat.zero_add]; exact h j x hx⟩
theorem ints1 (W : World) (x : Int) (t : TypeId) : IntsAt (W.alloc (.cells #[.int .i64 x] t)) (some ⟨W.heap.size, 0, none⟩) [x] := ints_cells fun j y hy => by
  rw [World.cell?_alloc_at _ _ _ _ rfl]
  match j, hy with
  | 0, hy => simp at hy; subst hy; rfl
theorem ints2 (W : World) (x y : Int) (t : TypeId) : IntsAt (W.alloc (.cells #[.int .i64 x, .int .i64 y] t)) (some ⟨W.heap.size, 0, none⟩) [x, y] := ints_cells fun j z hz => by
  rw [World.cell?_alloc_at _ _ _ _ rfl]
  match j, hz with
  | 0, hz => simp at hz; subst hz; rfl
  | 1, hz => simp at hz; subst hz; rfl
theorem ints3 (W : World) (x y z : Int) (t : TypeId) : IntsAt (W.alloc (.cells #[.int .i64 x, .int .i64 y, .int .i64 z] t)) (some ⟨W.heap.size, 0, none⟩) [x, y, z] := ints_cells fun j u hu => by
  rw [World.cell?_alloc_at _ _ _ _ rfl]
  match j, hu with
  | 0, hu => simp at hu; subst hu; rfl
  | 1, hu => simp at hu; subst hu; rfl
  | 2, hu => simp at hu; subst hu; rfl
theorem ints_one {W : World} {x : Int} {t : TypeId} {X : World} (h : Below (W.alloc (.cells #[.int .i64 x] t)).heap.size (W.alloc (.cells #[.int .i64 x] t)) X) : IntsAt X (some ⟨W.heap.size, 0, none⟩) [x] := (ints1 W x t).below h
/-- The cells of a script's call. -/
def OpC (W : World) (d r P b q : Nat) (o : OpD) : Prop := W.cell? ⟨P, 0, none⟩ = some (.pointer (some ⟨d, 0, none⟩)) ∧ W.cell? ⟨P, 1, none⟩ = some (.pointer (some ⟨r, 0, none⟩)) ∧ W.cell? ⟨b, q, none⟩ = some (.int .i64 o.kind) ∧ W.cell? ⟨b, q + 1, none⟩ = some (.string o.name) ∧ W.cell? ⟨b, q + 2, none⟩ = some (.string o.too) ∧ W.cell? ⟨b, q + 3, none⟩ = some (.slice o.da o.data.length o.dc) ∧ W.cell? ⟨b, q + 4, none⟩ = some (.int .i64 o.x) ∧ W.cell? ⟨b, q + 5, none⟩ = some (.int .i64 o.y) ∧ W.cell? ⟨b, q + 6, none⟩ = some (.int .i64 o.z) ∧ W.cell? ⟨b, q + 7, none⟩ = some (.slice o.ka o.keep.length o.kc)
theorem OpC.of {W : World} {d r P b q : Nat} {o : OpD} (h0 : W.cell? ⟨P, 0, none⟩ = some (.pointer (some ⟨d, 0, none⟩)) ∧ W.cell? ⟨P, 1, none⟩ = some (.pointer (some ⟨r, 0, none⟩))) (h : ∀ t, t < 8 → W.cell? ⟨b, q + t, none⟩ = o.cells[t]?) : OpC W d r P b q o :=
  ⟨h0.1, h0.2, h 0 (by omega), h 1 (by omega), h 2 (by omega), h 3 (by omega), h 4 (by omega), h 5 (by omega), h 6 (by omega), h 7 (by omega)⟩
section
variable {w : World} {T S T' S' : Nat → Nat} {W W' : World} {d mb : Nat} {fb fb' : Nat → Nat} {m m' : Dm} {r : Nat} {rm rm' : Rm} {P c : Nat}
theorem Pz.armed {U : Int} (h0 : Pz w T S W d mb fb m r rm P c) (h : Pw w T S W' d mb fb (m.arm U) r (rm.arm U) P) : Pz w T S W' d mb fb (m.arm U) r (rm.arm U) P (c + 1) := by
  obtain ⟨φ, hr⟩ := h0.pair.rel
  have s := h0.pair.szs
  refine h.pz ⟨φ, hr.arm U⟩ (h0.pair.hist.arm U) ⟨?_, ?_, by rw [rarm_fl]; omega⟩
  · show m.now.length + 2 * m.ch.length ≤ _
    omega
  · show m.ch.length ≤ _
    omega
theorem Pz.fell {dir : Int} {ks : List Int} (h0 : Pz w T S W d mb fb m r rm P c) (h : Pw w T' S' W' d mb fb' (m.fall dir ks) r (rm.fall dir ks) P) : Pz w T' S' W' d mb fb' (m.fall dir ks) r (rm.fall dir ks) P (c + 1) := by
  obtain ⟨φ, hr⟩ := h0.pair.rel
  have h6 := h0.pair.szs
  refine h.pz (hr.fall h0.pair.hist (fun j f hf => h0.pair.two.pd.sures j f hf) dir ks) (h0.pair.hist.fall dir ks) ?_
  have h1 : (m.fall dir ks).now = m.dirAt dir := rfl
  have h2 : (m.fall dir ks).ch = [] := rfl
  have h3 : (rm.fall dir ks).fl.length = (rm.image dir ks).length := by show (List.map _ _).length = _; rw [List.length_map]
  rw [hr.image] at h3
  have h4 := image_le m dir ks
  have h5 := dirAt_len m dir
  rw [h1, h2, h3]
  simp only [List.length_nil]
  omega
theorem Pz.fallC (h : Pz w T S W d mb fb m r rm P c) (hc : c ≤ 1000) (dir : Int) (hdir : dir ≤ 9223372036854775807) (ks : List Int) (hkw : ∀ x ∈ ks, x ≤ 9223372036854775807) (n : Nat) (hn : n = ks.length) {X : World} (hX : Below W.heap.size W X) (a : Option Addr) (ca : Nat) (ha : IntsAt X a ks) (hao : ∀ ad, a = some ad → ts T S ad.block = 0) (hca : n ≤ ca) (hca2 : ca ≤ 9223372036854775807) :
    Calls Try.prog 21 #[.pointer (some ⟨d, 0, none⟩), .int .i64 dir, .slice a n ca] X fun e w' => e = .returned (.tuple #[]) ∧ Pw w T S w' d mb fb (m.fall dir ks) r rm P := by
  subst hn
  have s := h.pair.szs
  refine (fall_any (h.pair.two.below hX).pd dir a ca ks ha (fun ad e => (ts0.1 (hao ad e)).1) hca hca2 hkw (h.pair.hist.dirAt dir) (by omega) (by omega)).mono ?_
  rintro e w5 ⟨rfl, hp5, hg5⟩
  exact ⟨rfl, (h.pw.below hX).prog hp5 hg5⟩
theorem Pz.rfallC (h : Pz w T S W d mb fb m r rm P c) (hc : c ≤ 1000) (dir : Int) (hdir : dir ≤ 9223372036854775807) (ks : List Int) (hkw : ∀ x ∈ ks, x ≤ 9223372036854775807) (n : Nat) (hn : n = ks.length) {T2 : Nat → Nat} {fb2 : Nat → Nat} {m2 : Dm} {X : World} (hX : Pw w T2 S X d mb fb2 m2 r rm P) (a : Option Addr) (ca : Nat) (ha : IntsAt X a ks) (hca : n ≤ ca) (hca2 : ca ≤ 9223372036854775807) :
    Calls Try.prog 22 #[.pointer (some ⟨r, 0, none⟩), .int .i64 dir, .slice a n ca] X fun e w' => e = .returned (.tuple #[]) ∧ ∃ S', Pw w T2 S' w' d mb fb2 m2 r (rm.fall dir ks) P := by
  subst hn
  have s := h.pair.szs
  obtain ⟨φ, hr⟩ := h.pair.rel
  have hrl : (rm.rest dir).length ≤ 8999998 := by rw [hr.rest, mp_length]; have z := dirAt_len m dir; omega
  refine (rfall_any hX.two.re (by rw [hr.len]; omega) hr.kinds dir hdir (hr.restIds h.pair.hist dir) hrl a ca ks ha hca hca2 hkw).mono ?_
  rintro e w6 ⟨rfl, S6, hr6, hg6⟩
  exact ⟨rfl, S6, hX.ref hr6 hg6⟩
/-- Create on both disks. -/
theorem Pz.createC (h : Pz w T S W d mb fb m r rm P c) (hc : c ≤ 1000) (s : ByteArray) (hs : s.size ≤ maxLen) {X : World} (hX : Below W.heap.size W X) :
    Calls Try.prog 23 #[.pointer (some ⟨d, 0, none⟩), .string s] X fun e w' => e = .returned (.int .i64 (m.create s).1) ∧ Pw w T S X d mb fb m r rm P ∧ ∃ T' fb', Pw w T' S w' d mb fb' (m.create s).2 r rm P := by
  have z := h.pair.szs
  refine (create_any (h.pair.two.below hX).pd s hs (by omega)).mono ?_
  rintro e w5 ⟨rfl, T5, fb5, hp5, hg5⟩
  exact ⟨rfl, h.pw.below hX, T5, fb5, (h.pw.below hX).prog hp5 hg5⟩
theorem Pz.rcreateC (h : Pz w T S W d mb fb m r rm P c) (hc : c ≤ 1000) (s : ByteArray) (hs : s.size ≤ maxLen) {T2 : Nat → Nat} {fb2 : Nat → Nat} {m2 : Dm} {X : World} (hX : Pw w T2 S X d mb fb2 m2 r rm P) :
    Calls Try.prog 24 #[.pointer (some ⟨r, 0, none⟩), .string s] X fun e w' => e = .returned (.int .i64 (m.create s).1) ∧ ∃ S', Pw w T2 S' w' d mb fb2 m2 r (rm.create s).2 P := by
  have z := h.pair.szs
  obtain ⟨φ, hr⟩ := h.pair.rel
  refine (rcreate_any hX.two.re s hs (by rw [hr.len]; omega) (by omega)).mono ?_
  rintro e w6 ⟨rfl, S6, hr6, hg6⟩
  exact ⟨by rw [(hr.create h.pair.hist s).1], S6, hX.ref hr6 hg6⟩
end
end Dsk
end Go.Proofs.Ytbloifnibgdeoaa
namespace Go.Proofs.Ytbloifnibgdeoaa
namespace Dsk
open Go.RowKit Go.Shelf Go.Maps Go.Sort Byt Laws
set_option linter.unusedVariables false
set_option maxRecDepth 100000
set_option linter.unusedSimpArgs false
attribute [local go_sem ↓] Go.wp_at_zero Go.wp_at_succ

theorem HIDU {p : Prop} (h : p) : Hid p := h
theorem Ob.opC {T : Nat → Nat} {W : World} {d r P ob : Nat} {o : OpD} (h : Ob T W ob o) (h0 : W.cell? ⟨P, 0, none⟩ = some (.pointer (some ⟨d, 0, none⟩)) ∧ W.cell? ⟨P, 1, none⟩ = some (.pointer (some ⟨r, 0, none⟩))) : W.cell? ⟨P, 0, none⟩ = some (.pointer (some ⟨d, 0, none⟩)) ∧ W.cell? ⟨P, 1, none⟩ = some (.pointer (some ⟨r, 0, none⟩)) ∧ W.cell? ⟨ob, 0, none⟩ = some (.int .i64 o.kind) ∧ W.cell? ⟨ob, 1, none⟩ = some (.string o.name) ∧ W.cell? ⟨ob, 2, none⟩ = some (.string o.too) ∧ W.cell? ⟨ob, 3, none⟩ = some (.slice o.da o.data.length o.dc) ∧ W.cell? ⟨ob, 4, none⟩ = some (.int .i64 o.x) ∧ W.cell? ⟨ob, 5, none⟩ = some (.int .i64 o.y) ∧ W.cell? ⟨ob, 6, none⟩ = some (.int .i64 o.z) ∧ W.cell? ⟨ob, 7, none⟩ = some (.slice o.ka o.keep.length o.kc) :=
  ⟨h0.1, h0.2, h.at_ 0 (by omega), h.at_ 1 (by omega), h.at_ 2 (by omega), h.at_ 3 (by omega), h.at_ 4 (by omega), h.at_ 5 (by omega), h.at_ 6 (by omega), h.at_ 7 (by omega)⟩
theorem ob_new {T : Nat → Nat} {W : World} {o : OpD} (hf : T W.heap.size = 0) : Ob T (W.alloc (.cells #[.int .i64 o.kind, .string o.name, .string o.too, .slice o.da o.data.length o.dc, .int .i64 o.x, .int .i64 o.y, .int .i64 o.z, .slice o.ka o.keep.length o.kc] 33)) W.heap.size o := ⟨by simp, hf, fun t ht => by
  rw [Go.Joins.cell_alloc_mark_at W _ _ _ _ _ rfl]
  match t, ht with
  | 0, _ => rfl
  | 1, _ => rfl
  | 2, _ => rfl
  | 3, _ => rfl
  | 4, _ => rfl
  | 5, _ => rfl
  | 6, _ => rfl
  | 7, _ => rfl⟩
theorem keep_le {os : List OpD} {o : OpD} {k : Nat} (ho : os[k]? = some o) (hs : sumO os ≤ 1048576) : o.keep.length ≤ 1048576 := by
  have z1 := sumO_take ho
  have z2 : sumO (os.take (k + 1)) + sumO (os.drop (k + 1)) = sumO os := by
    unfold sumO
    rw [← List.sum_append, ← List.map_append, List.take_append_drop]
  omega
theorem Pz.stepO {w : World} {T S : Nat → Nat} {W W' : World} {d mb : Nat} {fb : Nat → Nat} {m : Dm} {r : Nat} {rm : Rm} {P c ob : Nat} {o : OpD} (h : Pz w T S W d mb fb m r rm P c) (hd : DoIs T S W W' d mb r (c + 1)) (hb : Ob (ts T S) W ob o) : ∃ T' S' fb' m' rm', Pz w T' S' W' d mb fb' m' r rm' P (c + 1) ∧ Ob (ts T' S') W' ob o := by
  obtain ⟨T', S', fb', m', rm', hp, g2⟩ := hd
  have g := g2.goes
  obtain ⟨o1, o2⟩ := Goes.old h.go h.low g
  exact ⟨T', S', fb', m', rm', ⟨hp, o2, o1, cell_goes h.p0 h.pt g, cell_goes h.p1 h.pt g, (g.block P (World.block_lt_of_cell? W _ h.p0) h.pt).2⟩, hb.goes g⟩
set_option maxHeartbeats 8000000 in
theorem units_any (w : World) (R : Int) (hR : R ≤ 9223372036854775807) (a : Option Addr) (n c : Nat) (fs : List Fj) (ds : List (Option Addr × Nat)) (h : FjAt w a fs ds) (hn : fs.length = n) (hc : n ≤ c) (hc2 : c ≤ 9223372036854775807) (hl : ∀ f ∈ fs, f.data.length ≤ 140737488355328) (hl2 : n ≤ 2932031007402) (a' : Option Addr) (n' c' : Nat) (os : List OpD) (ho : OpsAt w a' os) (hn' : n' = os.length) (hc' : n' ≤ c') (hc2' : c' ≤ 9223372036854775807) (U : Int) (hU : U ≤ 9223372036854775807) :
    Calls Try.prog 5 #[.int .i64 R, .slice a n c, .slice a' n' c', .int .i64 U] w fun e w' => e = .returned (.bool true) ∧ Below w.heap.size w w' := by
  have HU : Hid (U ≤ 9223372036854775807) := hU
  clear hU
  have HF : Hid (FjAt w a fs ds ∧ fs.length = n ∧ n ≤ c ∧ c ≤ 9223372036854775807 ∧ (∀ f ∈ fs, f.data.length ≤ 140737488355328) ∧ R ≤ 9223372036854775807 ∧ n ≤ 2932031007402) := ⟨h, hn, hc, hc2, hl, hR, hl2⟩
  have HO : Hid (OpsAt w a' os ∧ n' = os.length ∧ n' ≤ c' ∧ c' ≤ 9223372036854775807) := ⟨ho, hn', hc', hc2'⟩
  clear h hn hc hc2 hl hl2 ho hn' hc' hc2'
  go_enter Try.func5, Try.ntmps5
  go_wp2_with fail
  refine (known_any w).mono ?_
  rintro e w1 ⟨rfl, hb1⟩
  have HB1 := HIDD hb1
  have HSM : Hid _ := small_both a n c fs ds a' n' c' os w1 (HF.out.1.below hb1) HF.out.2.1.symm HF.out.2.2.1 HF.out.2.2.2.1 HF.out.2.2.2.2.1 (ops_below HO.out.1 hb1) HO.out.2.1 HO.out.2.2.1 HO.out.2.2.2
  clear hb1
  go_wp2_with fail
  refine Calls.mono HSM.out ?_
  rintro e w2 ⟨⟨bs, rfl, hbs⟩, q, rfl⟩
  have HB2 : Hid (Below w.heap.size w (w1.drewN q)) := below_drewN HB1.out q
  have HS := HIDD hbs
  clear HSM HB1 hbs
  generalize w1.drewN q = w2 at *
  cases bs with
  | false =>
    go_wp2
    go_ret
    exact ⟨rfl, HB2.out⟩
  | true =>
    have HLE : Hid (os.length ≤ 400 ∧ sumO os ≤ 1048576) := ⟨(HS.out (by first | rfl | trivial)).2.2, (HS.out (by first | rfl | trivial)).2.1⟩
    clear HS
    by_cases hmost : (60 : Int) < (n' : Int)
    · go_wp2
      go_ret
      exact ⟨rfl, HB2.out⟩
    · have hn4 : n' ≤ 60 := by omega
      have HBG : Hid _ := begin2_any R HF.out.2.2.2.2.2.1 a n c fs ds w2 (HF.out.1.below HB2.out) HF.out.2.1 HF.out.2.2.1 HF.out.2.2.2.1 HF.out.2.2.2.2.1 HF.out.2.2.2.2.2.2
      go_wp2_with fail
      refine Calls.mono HBG.out ?_
      rintro e w4 ⟨hb4, hans⟩
      have HB4 : Hid (Below w.heap.size w w4) := HB2.out.trans (hb4.mono HB2.out.size)
      clear HBG
      rcases hans with ⟨hok, rfl⟩ | ⟨hok, P, d, r, mb, T0, fb0, S0, rfl, p0, p1, pt, htw, hlow⟩
      · clear hok hb4
        go_wp2
        go_ret
        exact ⟨rfl, HB4.out⟩
      · have K0 : Hid (Pz w T0 S0 w4 d mb fb0 (newM R.toNat fs) r { newR R.toNat fs with su := (newR R.toNat fs).now } P 0) := Pz.first HB2.out hb4 p0 p1 pt htw hlow hok
        clear hok hb4 p0 p1 pt htw hlow HB2 HB4 hmost
        have q0 := K0.out.p0
        have q1 := K0.out.p1
        generalize newM R.toNat fs = m0 at *
        generalize { newR R.toNat fs with su := (newR R.toNat fs).now } = rm0 at *
        go_wp2_with fail
        refine (arm_any K0.out.pair.two.pd U HU.out).mono ?_
        rintro e w5 ⟨rfl, hp5, hg5⟩
        have K5 : Hid (Pw w T0 S0 w5 d mb fb0 (m0.arm U) r rm0 P) := K0.out.pw.prog hp5 hg5
        have q5 := K5.out.p1
        clear q0 q1 hp5 hg5
        go_wp2_with fail
        refine (Re.arm_any K5.out.two.re U HU.out).mono ?_
        rintro e w6 ⟨rfl, hr6, hg6⟩
        have K6 : Hid (Pz w T0 S0 w6 d mb fb0 (m0.arm U) r (rm0.arm U) P 1) := K0.out.armed (K5.out.ref hr6 hg6)
        clear q5 hr6 hg6 K5 K0
        go_wp2_with fail
        go_loopw [12] (fun i wr => ∃ (k c : Nat) (T S : Nat → Nat) (fb : Nat → Nat) (m : Dm) (rm : Rm), k ≤ n' ∧ c ≤ k + 1 ∧ i = .int .i64 (k : Int) ∧ Hid (Pz w T S wr d mb fb m r rm P c)) (fun i _ => n' - (intOf i).toNat)
        case atStart => exact ⟨0, 1, T0, S0, fb0, _, _, Nat.zero_le _, Nat.le_refl _, rfl, K6.out⟩
        case round =>
          clear K6
          obtain ⟨k, c, T, S, fb, m, rm, hk, hck, rfl, K⟩ := hrel
          rename World => W
          by_cases hlt : k < n'
          · have hlt' : (k : Int) < (n' : Int) := by omega
            have hks : k < os.length := by rw [← HO.out.2.1]; exact hlt
            obtain ⟨o, ho⟩ : ∃ o, os[k]? = some o := ⟨_, List.getElem?_eq_getElem hks⟩
            have hom := List.mem_of_getElem? ho
            obtain ⟨b, off, rfl, hbl, hcl⟩ := (ops_below HO.out.1 K.out.go).at_ k o ho
            have c0 : W.cell? ⟨b, off + k * 8, none⟩ = some (.int .i64 o.kind) := hcl 0 (by omega)
            have c1 : W.cell? ⟨b, off + k * 8 + 1, none⟩ = some (.string o.name) := hcl 1 (by omega)
            have c2 : W.cell? ⟨b, off + k * 8 + 2, none⟩ = some (.string o.too) := hcl 2 (by omega)
            have c3 : W.cell? ⟨b, off + k * 8 + 3, none⟩ = some (.slice o.da o.data.length o.dc) := hcl 3 (by omega)
            have c4 : W.cell? ⟨b, off + k * 8 + 4, none⟩ = some (.int .i64 o.x) := hcl 4 (by omega)
            have c5 : W.cell? ⟨b, off + k * 8 + 5, none⟩ = some (.int .i64 o.y) := hcl 5 (by omega)
            have c6 : W.cell? ⟨b, off + k * 8 + 6, none⟩ = some (.int .i64 o.z) := hcl 6 (by omega)
            have c7 : W.cell? ⟨b, off + k * 8 + 7, none⟩ = some (.slice o.ka o.keep.length o.kc) := hcl 7 (by omega)
            have HKP : Hid (o.keep.length ≤ 1048576 ∧ o ∈ os) := ⟨keep_le ho HLE.out.2, hom⟩
            clear hcl ho hks hom
            go_upto_region 13 with fail
            have K1 : Hid (Pz w T S (W.alloc (.cells #[.int .i64 o.kind, .string o.name, .string o.too, .slice o.da o.data.length o.dc, .int .i64 o.x, .int .i64 o.y, .int .i64 o.z, .slice o.ka o.keep.length o.kc] 33)) d mb fb m r rm P c) := K.out.below ((Below.refl _ _).alloc (Nat.le_refl _) _)
            have B1 : Hid (Ob (ts T S) (W.alloc (.cells #[.int .i64 o.kind, .string o.name, .string o.too, .slice o.da o.data.length o.dc, .int .i64 o.x, .int .i64 o.y, .int .i64 o.z, .slice o.ka o.keep.length o.kc] 33)) W.heap.size o) := ob_new (K.out.pair.two.fresh (Nat.le_refl _))
            clear K c0 c1 c2 c3 c4 c5 c6 c7
            generalize W.alloc (.cells #[.int .i64 o.kind, .string o.name, .string o.too, .slice o.da o.data.length o.dc, .int .i64 o.x, .int .i64 o.y, .int .i64 o.z, .slice o.ka o.keep.length o.kc] 33) = W0 at *
            generalize W.heap.size = ob at *
            have k0 : W0.cell? ⟨ob, 0, none⟩ = some (.int .i64 o.kind) := B1.out.at_ 0 (by omega)
            by_cases h10 : o.kind = 10
            · clear B1
              rw [h10] at k0
              go_wp2_with fail
              go_roundw
              case rel => exact ⟨k + 1, c, T, S, fb, m, rm, by omega, by omega, by go_num, K1.out⟩
              case measure => simp [intOf]; omega
            · by_cases h11 : o.kind = 11
              · clear B1
                rw [h11] at k0
                go_wp2_with fail
                go_roundw
                case rel => exact ⟨k + 1, c, T, S, fb, m, rm, by omega, by omega, by go_num, K1.out⟩
                case measure => simp [intOf]; omega
              · have HD : Hid _ := does_any (K1.out.pair.below (Below.refl _ _).drew) (by omega) (K1.out.below (Below.refl _ _).drew).p0 (K1.out.below (Below.refl _ _).drew).p1 K1.out.pt o (opOk_below (HO.out.1.ok o HKP.out.2) (K1.out.below (Below.refl _ _).drew).go) (fun hne ad e => K1.out.low _ (isB_lt (HO.out.1.ok o HKP.out.2).isB hne ad e)) (fun hne ad e => K1.out.low _ (ints_lt (HO.out.1.ok o HKP.out.2).ints hne ad e)) HKP.out.1
                have hS1 := (B1.out.goes (Goes.below (Below.refl _ _).drew)).opC (K1.out.below (Below.refl _ _).drew).cells
                have d10 : (o.kind == 10) = false := by simp [h10]
                have d11 : (o.kind == 11) = false := by simp [h11]
                go_wp2_with fail
                go_region_held3 (fun W => W.cell? ⟨P, 0, none⟩ = some (.pointer (some ⟨d, 0, none⟩)) ∧ W.cell? ⟨P, 1, none⟩ = some (.pointer (some ⟨r, 0, none⟩)) ∧ W.cell? ⟨ob, 0, none⟩ = some (.int .i64 o.kind) ∧ W.cell? ⟨ob, 1, none⟩ = some (.string o.name) ∧ W.cell? ⟨ob, 2, none⟩ = some (.string o.too) ∧ W.cell? ⟨ob, 3, none⟩ = some (.slice o.da o.data.length o.dc) ∧ W.cell? ⟨ob, 4, none⟩ = some (.int .i64 o.x) ∧ W.cell? ⟨ob, 5, none⟩ = some (.int .i64 o.y) ∧ W.cell? ⟨ob, 6, none⟩ = some (.int .i64 o.z) ∧ W.cell? ⟨ob, 7, none⟩ = some (.slice o.ka o.keep.length o.kc)) (first | assumption | exact hS1)
                  (first
                  | (go_at_call 11; go_loud (refine Calls.mono HD.out ?_; rintro e w5 ⟨rfl, hdo⟩; obtain ⟨T5, S5, fb5, m5, rm5, hk5, hob5⟩ := (K1.out.below (Below.refl _ _).drew).stepO hdo (B1.out.goes (Goes.below (Below.refl _ _).drew)); have K5 := HIDU hk5; have B5 := HIDU hob5; have hS5 := B5.out.opC K5.out.cells; clear hk5 hob5 hdo))
                  | (go_at_call 15; go_loud (refine (K5.out.downC (Below.refl _ _)).mono ?_; rintro e w6 ⟨rfl, rfl⟩))
                  | (go_at_call 16; go_loud (refine (K5.out.fellC (Below.refl _ _)).mono ?_; rintro e w7 ⟨rfl, rfl⟩)))
                have hbn : (m5.down != m5.down) = false := by cases m5.down <;> rfl
                go_wp2_with fail
                go_roundw
                case rel => exact ⟨k + 1, c + 1, T5, S5, fb5, m5, rm5, by omega, by omega, by go_num, K5.out⟩
                case measure => simp [intOf]; omega
          · have hlt' : ¬ ((k : Int) < (n' : Int)) := by omega
            have hc9 : c ≤ 900 := by omega
            go_wp2_with fail
            have hS1 := (K.out.below (Below.refl _ _).drew).cells
            go_region_held3 (fun W => W.cell? ⟨P, 0, none⟩ = some (.pointer (some ⟨d, 0, none⟩)) ∧ W.cell? ⟨P, 1, none⟩ = some (.pointer (some ⟨r, 0, none⟩))) (first | assumption | exact hS1)
              (first
              | (go_at_call 13; go_loud (refine (K.out.filC (by omega) (Below.refl _ _).drew).mono ?_; rintro e w5 ⟨v5, rfl, hb5, hc5⟩; have HC5 := HIDU hc5; have hS5 := (K.out.below hb5).cells; clear hb5 hc5))
              | (go_at_call 14; go_loud (refine Calls.mono HC5.out ?_; rintro e w6 ⟨v6, rfl, hb6, hc6⟩; have HC6 := HIDU hc6; have hS6 := (K.out.below hb6).cells; clear hb6 hc6))
              | (go_at_call 12; go_loud (refine Calls.mono HC6.out ?_; rintro e w7 ⟨rfl, hb7⟩; have HB7 := HIDU hb7; have hS7 := (K.out.below hb7).cells; clear hb7)))
            have K7 : Hid (Pz w T S w7 d mb fb m r rm P c) := K.out.below HB7.out
            clear HC5 HC6 HB7 K hS1 hS5 hS6
            go_wp2_with fail
            refine (K7.out.fallC (by omega) 2 (by omega) [3, 0] (by simp) 2 rfl ((Below.refl _ _).alloc (Nat.le_refl _) _) _ _ (ints2 _ _ _ _) (fun ad e => by injection e with e; subst e; exact K7.out.pair.two.fresh (Nat.le_refl _)) (by omega) (by omega)).mono ?_
            rintro e w8 ⟨rfl, hp8⟩
            have K8 : Hid (Pw w T S w8 d mb fb (m.fall 2 [3, 0]) r rm P) := hp8
            have hS8 := K8.out.cells
            clear hp8 hS7
            go_wp2_with fail
            refine (K7.out.rfallC (by omega) 2 (by omega) [3, 0] (by simp) 2 rfl (K8.out.below ((Below.refl _ _).alloc (Nat.le_refl _) _)) _ _ (ints2 _ _ _ _) (by omega) (by omega)).mono ?_
            rintro e w9 ⟨rfl, S9, hp9⟩
            have K9 : Hid (Pz w T S9 w9 d mb fb (m.fall 2 [3, 0]) r (rm.fall 2 [3, 0]) P (c + 1)) := K7.out.fell hp9
            have HDN : Hid (∀ X, Below w9.heap.size w9 X → Calls Try.prog 15 #[.pointer (some ⟨d, 0, none⟩)] X fun e w' => e = .returned (.bool false) ∧ w' = X) := fun X hX => K9.out.downC hX
            clear hp9 hS8 K8 K7
            generalize m.fall 2 [3, 0] = m9 at *
            generalize rm.fall 2 [3, 0] = rm9 at *
            have hsz : (⟨#[102, 114, 101, 115, 104]⟩ : ByteArray).size ≤ maxLen := by show 5 ≤ _; unfold maxLen; omega
            have hbe : ((m9.create ⟨#[102, 114, 101, 115, 104]⟩).1 == (m9.create ⟨#[102, 114, 101, 115, 104]⟩).1) = true := by simp
            go_wp2_with fail
            have hS1 := (K9.out.below (Below.refl _ _).drew).cells
            go_region_held3 (fun W => W.cell? ⟨P, 0, none⟩ = some (.pointer (some ⟨d, 0, none⟩)) ∧ W.cell? ⟨P, 1, none⟩ = some (.pointer (some ⟨r, 0, none⟩))) (first | assumption | exact hS1)
              (first
              | (go_at_call 15; go_loud (refine (HDN.out _ (Below.refl _ _).drew).mono ?_; rintro e w10 ⟨rfl, rfl⟩))
              | (go_at_call 13; go_loud (refine (K9.out.filC (by omega) (Below.refl _ _).drew).mono ?_; rintro e w11 ⟨v11, rfl, hb11, hc11⟩; have HC11 := HIDU hc11; have hS11 := (K9.out.below hb11).cells; clear hb11 hc11))
              | (go_at_call 14; go_loud (refine Calls.mono HC11.out ?_; rintro e w12 ⟨v12, rfl, hb12, hc12⟩; have HC12 := HIDU hc12; have hS12 := (K9.out.below hb12).cells; clear hb12 hc12))
              | (go_at_call 12; go_loud (refine Calls.mono HC12.out ?_; rintro e w13 ⟨rfl, hb13⟩; have HB13 := HIDU hb13; have hS13 := (K9.out.below hb13).cells; clear hb13))
              | (go_at_call 23; go_loud (refine (K9.out.createC (by omega) ⟨#[102, 114, 101, 115, 104]⟩ hsz HB13.out).mono ?_; rintro e w14 ⟨rfl, _, T14, fb14, hp14⟩; have K14 := HIDU hp14; have hS14 := K14.out.cells; clear hp14))
              | (go_at_call 24; go_loud (refine (K9.out.rcreateC (by omega) ⟨#[102, 114, 101, 115, 104]⟩ hsz K14.out).mono ?_; rintro e w15 ⟨rfl, S15, hp15⟩; have K15 := HIDU hp15; have hS15 := K15.out.cells; clear hp15)))
            go_wp2_with fail
            go_ret
            exact ⟨by first | rfl | simp, K15.out.go⟩
end Dsk
end Go.Proofs.Ytbloifnibgdeoaa
namespace Go.Proofs.Ytbloifnibgdeoaa
namespace Dsk
open Go.RowKit Go.Shelf Go.Maps Go.Sort Byt Laws
set_option linter.unusedVariables false
set_option maxRecDepth 100000
set_option linter.unusedSimpArgs false
attribute [local go_sem ↓] Go.wp_at_zero Go.wp_at_succ

theorem keepS3 {wq : World} {S : World → Prop} (h : ∀ W, Below wq.heap.size wq W → Below wq.heap.size wq W ∧ S W) {W W' : World} (h1 : Below wq.heap.size wq W ∧ S W) (h2 : Below W.heap.size W W') : Below wq.heap.size wq W' ∧ S W' := h W' (h1.1.trans (h2.mono h1.1.size))
theorem keepA3 {wq : World} {S : World → Prop} (h : ∀ W, Below wq.heap.size wq W → Below wq.heap.size wq W ∧ S W) {W : World} (h1 : Below wq.heap.size wq W ∧ S W) (o : Obj) : Below wq.heap.size wq (W.alloc o) ∧ S (W.alloc o) := h _ (h1.1.alloc h1.1.size o)
theorem ops_cells {W : World} {b off k d r P : Nat} {os : List OpD} {o : OpD} (h : OpsAt W (some ⟨b, off, none⟩) os) (hk : os[k]? = some o) (h0 : W.cell? ⟨P, 0, none⟩ = some (.pointer (some ⟨d, 0, none⟩)) ∧ W.cell? ⟨P, 1, none⟩ = some (.pointer (some ⟨r, 0, none⟩))) : W.cell? ⟨P, 0, none⟩ = some (.pointer (some ⟨d, 0, none⟩)) ∧ W.cell? ⟨P, 1, none⟩ = some (.pointer (some ⟨r, 0, none⟩)) ∧ W.cell? ⟨b, off + k * 8, none⟩ = some (.int .i64 o.kind) ∧ W.cell? ⟨b, off + k * 8 + 1, none⟩ = some (.string o.name) ∧ W.cell? ⟨b, off + k * 8 + 2, none⟩ = some (.string o.too) ∧ W.cell? ⟨b, off + k * 8 + 3, none⟩ = some (.slice o.da o.data.length o.dc) ∧ W.cell? ⟨b, off + k * 8 + 4, none⟩ = some (.int .i64 o.x) ∧ W.cell? ⟨b, off + k * 8 + 5, none⟩ = some (.int .i64 o.y) ∧ W.cell? ⟨b, off + k * 8 + 6, none⟩ = some (.int .i64 o.z) ∧ W.cell? ⟨b, off + k * 8 + 7, none⟩ = some (.slice o.ka o.keep.length o.kc) := by
  obtain ⟨b', off', e, hbl, hcl⟩ := h.at_ k o hk
  obtain ⟨rfl, rfl⟩ : b' = b ∧ off' = off := by injection e with e; injection e with e1 e2; exact ⟨e1.symm, e2.symm⟩
  exact ⟨h0.1, h0.2, hcl 0 (by omega), hcl 1 (by omega), hcl 2 (by omega), hcl 3 (by omega), hcl 4 (by omega), hcl 5 (by omega), hcl 6 (by omega), hcl 7 (by omega)⟩
theorem ints1b (W : World) (o : Obj) (x : Int) (t : TypeId) : IntsAt ((W.alloc o).alloc (.cells #[.int .i64 x] t)) (some ⟨W.heap.size + 1, 0, none⟩) [x] := by
  have := ints1 (W.alloc o) x t
  rwa [World.size_alloc] at this
theorem ints1c (W : World) (o : Obj) (x : Int) (t : TypeId) : IntsAt ((W.alloc (.cells #[.int .i64 x] t)).alloc o) (some ⟨W.heap.size, 0, none⟩) [x] := (ints1 W x t).below ((Below.refl _ _).alloc (Nat.le_refl _) _)
theorem ints_none (W : World) : IntsAt W none [] := fun j x hx => by simp at hx
set_option maxHeartbeats 8000000 in
theorem looks_any (w : World) (R : Int) (hR : R ≤ 9223372036854775807) (a : Option Addr) (n c : Nat) (fs : List Fj) (ds : List (Option Addr × Nat)) (h : FjAt w a fs ds) (hn : fs.length = n) (hc : n ≤ c) (hc2 : c ≤ 9223372036854775807) (hl : ∀ f ∈ fs, f.data.length ≤ 140737488355328) (hl2 : n ≤ 2932031007402) (a' : Option Addr) (n' c' : Nat) (os : List OpD) (ho : OpsAt w a' os) (hn' : n' = os.length) (hc' : n' ≤ c') (hc2' : c' ≤ 9223372036854775807) :
    Calls Try.prog 4 #[.int .i64 R, .slice a n c, .slice a' n' c'] w fun e w' => e = .returned (.bool true) ∧ Below w.heap.size w w' := by
  have HF : Hid (FjAt w a fs ds ∧ fs.length = n ∧ n ≤ c ∧ c ≤ 9223372036854775807 ∧ (∀ f ∈ fs, f.data.length ≤ 140737488355328) ∧ R ≤ 9223372036854775807 ∧ n ≤ 2932031007402) := ⟨h, hn, hc, hc2, hl, hR, hl2⟩
  have HO : Hid (OpsAt w a' os ∧ n' = os.length ∧ n' ≤ c' ∧ c' ≤ 9223372036854775807) := ⟨ho, hn', hc', hc2'⟩
  clear h hn hc hc2 hl hl2 ho hn' hc' hc2'
  go_enter Try.func4, Try.ntmps4
  go_wp2_with fail
  refine (known_any w).mono ?_
  rintro e w1 ⟨rfl, hb1⟩
  have HB1 := HIDD hb1
  have HSM : Hid _ := small_both a n c fs ds a' n' c' os w1 (HF.out.1.below hb1) HF.out.2.1.symm HF.out.2.2.1 HF.out.2.2.2.1 HF.out.2.2.2.2.1 (ops_below HO.out.1 hb1) HO.out.2.1 HO.out.2.2.1 HO.out.2.2.2
  clear hb1
  go_wp2_with fail
  refine Calls.mono HSM.out ?_
  rintro e w2 ⟨⟨bs, rfl, hbs⟩, q, rfl⟩
  have HB2 : Hid (Below w.heap.size w (w1.drewN q)) := below_drewN HB1.out q
  have HS := HIDD hbs
  clear HSM HB1 hbs
  generalize w1.drewN q = w2 at *
  cases bs with
  | false =>
    go_wp2
    go_ret
    exact ⟨rfl, HB2.out⟩
  | true =>
    have HLE : Hid (os.length ≤ 400 ∧ sumO os ≤ 1048576) := ⟨(HS.out (by first | rfl | trivial)).2.2, (HS.out (by first | rfl | trivial)).2.1⟩
    clear HS
    by_cases hmost : (80 : Int) < (n' : Int)
    · go_wp2
      go_ret
      exact ⟨rfl, HB2.out⟩
    · have hn4 : n' ≤ 80 := by omega
      have HBG : Hid _ := begin2_any R HF.out.2.2.2.2.2.1 a n c fs ds w2 (HF.out.1.below HB2.out) HF.out.2.1 HF.out.2.2.1 HF.out.2.2.2.1 HF.out.2.2.2.2.1 HF.out.2.2.2.2.2.2
      go_wp2_with fail
      refine Calls.mono HBG.out ?_
      rintro e w4 ⟨hb4, hans⟩
      have HB4 : Hid (Below w.heap.size w w4) := HB2.out.trans (hb4.mono HB2.out.size)
      clear HBG
      rcases hans with ⟨hok, rfl⟩ | ⟨hok, P, d, r, mb, T0, fb0, S0, rfl, p0, p1, pt, htw, hlow⟩
      · clear hok hb4
        go_wp2
        go_ret
        exact ⟨rfl, HB4.out⟩
      · have K0 : Hid (Pz w T0 S0 w4 d mb fb0 (newM R.toNat fs) r { newR R.toNat fs with su := (newR R.toNat fs).now } P 0) := Pz.first HB2.out hb4 p0 p1 pt htw hlow hok
        clear hok hb4 p0 p1 pt htw hlow HB2 HB4 hmost
        go_wp2_with fail
        go_loopw [10] (fun i wr => ∃ (k : Nat) (T S : Nat → Nat) (fb : Nat → Nat) (m : Dm) (rm : Rm), k ≤ n' ∧ i = .int .i64 (k : Int) ∧ Hid (Pz w T S wr d mb fb m r rm P k)) (fun i _ => n' - (intOf i).toNat)
        case atStart => exact ⟨0, T0, S0, fb0, _, _, Nat.zero_le _, rfl, K0.out⟩
        case round =>
          clear K0
          obtain ⟨k, T, S, fb, m, rm, hk, rfl, K⟩ := hrel
          rename World => W
          by_cases hlt : k < n'
          · have hlt' : (k : Int) < (n' : Int) := by omega
            have hks : k < os.length := by rw [← HO.out.2.1]; exact hlt
            obtain ⟨o, ho⟩ : ∃ o, os[k]? = some o := ⟨_, List.getElem?_eq_getElem hks⟩
            have hom := List.mem_of_getElem? ho
            obtain ⟨b, off, rfl, hbl, hcl⟩ := (ops_below HO.out.1 K.out.go).at_ k o ho
            have HOK : Hid (o.keep.length ≤ 1048576 ∧ o ∈ os ∧ os[k]? = some o) := ⟨keep_le ho HLE.out.2, hom, ho⟩
            have hS1 := ops_cells (ops_below HO.out.1 (K.out.below (Below.refl _ _).drew).go) HOK.out.2.2 (K.out.below (Below.refl _ _).drew).cells
            have HD : Hid _ := does_any (K.out.pair.below (Below.refl _ _).drew) (by omega) (K.out.below (Below.refl _ _).drew).p0 (K.out.below (Below.refl _ _).drew).p1 K.out.pt o (opOk_below (HO.out.1.ok o HOK.out.2.1) (K.out.below (Below.refl _ _).drew).go) (fun hne ad e => K.out.low _ (isB_lt (HO.out.1.ok o HOK.out.2.1).isB hne ad e)) (fun hne ad e => K.out.low _ (ints_lt (HO.out.1.ok o HOK.out.2.1).ints hne ad e)) HOK.out.1
            clear hcl ho hks hom hbl
            go_wp2_with fail
            go_cut [80] (fun v wx => ∃ (T5 S5 : Nat → Nat) (fb5 : Nat → Nat) (m5 : Dm) (rm5 : Rm), v = .bool false ∧ Hid (Pz w T5 S5 wx d mb fb5 m5 r rm5 P (k + 1)))
            case first =>
              go_region_held3 (fun W => W.cell? ⟨P, 0, none⟩ = some (.pointer (some ⟨d, 0, none⟩)) ∧ W.cell? ⟨P, 1, none⟩ = some (.pointer (some ⟨r, 0, none⟩)) ∧ W.cell? ⟨b, off + k * 8, none⟩ = some (.int .i64 o.kind) ∧ W.cell? ⟨b, off + k * 8 + 1, none⟩ = some (.string o.name) ∧ W.cell? ⟨b, off + k * 8 + 2, none⟩ = some (.string o.too) ∧ W.cell? ⟨b, off + k * 8 + 3, none⟩ = some (.slice o.da o.data.length o.dc) ∧ W.cell? ⟨b, off + k * 8 + 4, none⟩ = some (.int .i64 o.x) ∧ W.cell? ⟨b, off + k * 8 + 5, none⟩ = some (.int .i64 o.y) ∧ W.cell? ⟨b, off + k * 8 + 6, none⟩ = some (.int .i64 o.z) ∧ W.cell? ⟨b, off + k * 8 + 7, none⟩ = some (.slice o.ka o.keep.length o.kc)) (first | assumption | exact hS1)
                (first
                | (go_at_call 11; go_loud (refine Calls.mono HD.out ?_; rintro e w5 ⟨rfl, hdo⟩; obtain ⟨T5, S5, fb5, m5, rm5, hk5⟩ := (K.out.below (Below.refl _ _).drew).step hdo; have K5 := HIDU hk5; have hS5 := ops_cells (ops_below HO.out.1 K5.out.go) HOK.out.2.2 K5.out.cells; clear hk5 hdo))
                | (go_at_call 13; go_loud (refine (K5.out.filC (by omega) (Below.refl _ _)).mono ?_; rintro e w6 ⟨v6, rfl, hb6, hc6⟩; have HC6 := HIDU hc6; have hS6 := ops_cells (ops_below HO.out.1 (K5.out.below hb6).go) HOK.out.2.2 (K5.out.below hb6).cells; clear hb6 hc6))
                | (go_at_call 14; go_loud (refine Calls.mono HC6.out ?_; rintro e w7 ⟨v7, rfl, hb7, hc7⟩; have HC7 := HIDU hc7; have hS7 := ops_cells (ops_below HO.out.1 (K5.out.below hb7).go) HOK.out.2.2 (K5.out.below hb7).cells; clear hb7 hc7))
                | (go_at_call 12; go_loud (refine Calls.mono HC7.out ?_; rintro e w8 ⟨rfl, hb8⟩; have HB8 := HIDU hb8; have hS8 := ops_cells (ops_below HO.out.1 (K5.out.below hb8).go) HOK.out.2.2 (K5.out.below hb8).cells; clear hb8))
                | (go_at_call 15; go_loud (refine (K5.out.downC HB8.out).mono ?_; rintro e w9 ⟨rfl, rfl⟩))
                | (go_at_call 16; go_loud (refine (K5.out.fellC HB8.out).mono ?_; rintro e w10 ⟨rfl, rfl⟩)))
              all_goals (
                have hbn : (m5.down != m5.down) = false := by cases m5.down <;> rfl
                go_wp2_with fail
                go_meet
                case rel => exact ⟨T5, S5, fb5, m5, rm5, by first | rfl | simp, K5.out.below HB8.out⟩)
            case rest =>
              obtain ⟨T5, S5, fb5, m5, rm5, rfl, K5⟩ := hcut
              rename World => W5
              clear HD K hS1
              have hk9 : k + 1 ≤ 900 := by omega
              have hm3 : IntKind.i64.wrap (((k % 3 : Nat) : Int)) = ((k % 3 : Nat) : Int) := IntWalk.i64_in _ (by omega)
              go_wp2_with fail
              go_loopw [11] (fun dv wr => ∃ j : Nat, j ≤ 4 ∧ dv = .int .i64 (j : Int) ∧ Hid (Pz w T5 S5 wr d mb fb5 m5 r rm5 P (k + 1))) (fun dv _ => 4 - (intOf dv).toNat)
              case atStart => exact ⟨0, by omega, rfl, K5.out⟩
              case round =>
                clear K5
                obtain ⟨j, hj, rfl, KJ⟩ := hrel
                rename World => wj
                by_cases hj4 : j < 4
                · have hj4' : (j : Int) < 4 := by omega
                  go_wp2_with fail
                  have HIN : Hid (∀ X, Below (wj.alloc (.cells #[.int .i64 ((k : Int) % 3), .int .i64 (j : Int), .int .i64 1099511627776] 3)).heap.size (wj.alloc (.cells #[.int .i64 ((k : Int) % 3), .int .i64 (j : Int), .int .i64 1099511627776] 3)) X → IntsAt X (some ⟨wj.heap.size, 0, none⟩) [(k : Int) % 3, (j : Int), 1099511627776]) := fun X hX => (ints3 _ _ _ _ _).below hX
                  have KA : Hid (Pz w T5 S5 (wj.alloc (.cells #[.int .i64 ((k : Int) % 3), .int .i64 (j : Int), .int .i64 1099511627776] 3)) d mb fb5 m5 r rm5 P (k + 1)) := KJ.out.below ((Below.refl _ _).alloc (Nat.le_refl _) _)
                  have HKW : Hid (∀ x ∈ [(k : Int) % 3, (j : Int), 1099511627776], x ≤ 9223372036854775807) := by
                    intro x hx
                    simp at hx
                    omega
                  clear KJ
                  generalize wj.alloc (.cells #[.int .i64 ((k : Int) % 3), .int .i64 (j : Int), .int .i64 1099511627776] 3) = wa at *
                  generalize wj.heap.size = gj at *
                  generalize (k : Int) % 3 = k3 at *
                  have hS1 := (KA.out.below (Below.refl _ _).drew).cells
                  go_region_held3 (fun W => W.cell? ⟨P, 0, none⟩ = some (.pointer (some ⟨d, 0, none⟩)) ∧ W.cell? ⟨P, 1, none⟩ = some (.pointer (some ⟨r, 0, none⟩))) (first | assumption | exact hS1)
                    (first
                    | (go_at_call 17; go_loud (refine (KA.out.imgC (by omega) (j : Int) (by omega) _ HKW.out 3 rfl (Below.refl _ _).drew _ 3 (HIN.out _ (Below.refl _ _).drew) (by omega) (by omega)).mono ?_; rintro e w5 ⟨v5, rfl, hb5, _, hc5⟩; have HC5 := HIDU (hc5 w5 (Below.refl _ _) (some ⟨gj, 0, none⟩) 3 (HIN.out _ hb5) (by omega) (by omega)); have hS5 := (KA.out.below hb5).cells; clear hb5 hc5))
                    | (go_at_call 18; go_loud (refine Calls.mono HC5.out ?_; rintro e w6 ⟨v6, rfl, hb6, hc6⟩; have HC6 := HIDU hc6; have hS6 := (KA.out.below hb6).cells; clear hb6 hc6))
                    | (go_at_call 12; go_loud (refine Calls.mono HC6.out ?_; rintro e w7 ⟨rfl, hb7⟩; have HB7 := HIDU hb7; have hS7 := (KA.out.below hb7).cells; clear hb7)))
                  all_goals (
                    go_wp2_with fail
                    go_roundw
                    case rel => exact ⟨j + 1, by omega, by go_num, KA.out.below HB7.out⟩
                    case measure => simp [intOf]; omega)
                · have hj4' : ¬ (j : Int) < 4 := by omega
                  have HST : Hid (∀ W, Below wj.heap.size wj W → Below wj.heap.size wj W ∧ W.cell? ⟨P, 0, none⟩ = some (.pointer (some ⟨d, 0, none⟩)) ∧ W.cell? ⟨P, 1, none⟩ = some (.pointer (some ⟨r, 0, none⟩))) := fun W hW => ⟨hW, (KJ.out.below hW).cells⟩
                  have HI1 : Hid (∀ X, (Below wj.heap.size wj X ∧ X.cell? ⟨P, 0, none⟩ = some (.pointer (some ⟨d, 0, none⟩)) ∧ X.cell? ⟨P, 1, none⟩ = some (.pointer (some ⟨r, 0, none⟩))) → Calls Try.prog 17 #[.pointer (some ⟨d, 0, none⟩), .int .i64 4611686018427387904, .slice none 0 0] X fun e w' => ∃ v, e = .returned v ∧ Below wj.heap.size wj w' ∧ Calls Try.prog 18 #[.pointer (some ⟨r, 0, none⟩), .int .i64 4611686018427387904, .slice none 0 0] w' fun e w'' => ∃ v', e = .returned v' ∧ Below wj.heap.size wj w'' ∧ Calls Try.prog 12 #[v, v'] w'' fun e w3 => e = .returned (.bool true) ∧ Below wj.heap.size wj w3) := fun X hX => by
                    refine (KJ.out.imgC (by omega) 4611686018427387904 (by omega) [] (by simp) 0 rfl hX.1 none 0 (ints_none _) (by omega) (by omega)).mono ?_
                    rintro e w' ⟨v, rfl, hb, _, hc⟩
                    exact ⟨v, rfl, hb, hc w' (Below.refl _ _) none 0 (ints_none _) (by omega) (by omega)⟩
                  have HI2 : Hid (∀ X, (Below wj.heap.size wj X ∧ X.cell? ⟨P, 0, none⟩ = some (.pointer (some ⟨d, 0, none⟩)) ∧ X.cell? ⟨P, 1, none⟩ = some (.pointer (some ⟨r, 0, none⟩))) → ∀ a, IntsAt X a [-1] → Calls Try.prog 17 #[.pointer (some ⟨d, 0, none⟩), .int .i64 (-1), .slice a 1 1] X fun e w' => ∃ v, e = .returned v ∧ Below wj.heap.size wj w' ∧ Below X.heap.size X w' ∧ ∀ Y, Below w'.heap.size w' Y → ∀ a', IntsAt Y a' [-1] → Calls Try.prog 18 #[.pointer (some ⟨r, 0, none⟩), .int .i64 (-1), .slice a' 1 1] Y fun e w'' => ∃ v', e = .returned v' ∧ Below wj.heap.size wj w'' ∧ Calls Try.prog 12 #[v, v'] w'' fun e w3 => e = .returned (.bool true) ∧ Below wj.heap.size wj w3) := fun X hX a ha => by
                    refine (KJ.out.imgC (by omega) (-1) (by omega) [-1] (by simp) 1 rfl hX.1 a 1 ha (by omega) (by omega)).mono ?_
                    rintro e w' ⟨v, rfl, hb, hb2, hc⟩
                    exact ⟨v, rfl, hb, hb2, fun Y hY a' ha' => hc Y hY a' 1 ha' (by omega) (by omega)⟩
                  go_wp2_with fail
                  go_cut [132] (fun v wx => v = .bool false ∧ Hid (Pz w T5 S5 wx d mb fb5 m5 r rm5 P (k + 1)))
                  case first =>
                    go_region_held3 (fun W => Below wj.heap.size wj W ∧ W.cell? ⟨P, 0, none⟩ = some (.pointer (some ⟨d, 0, none⟩)) ∧ W.cell? ⟨P, 1, none⟩ = some (.pointer (some ⟨r, 0, none⟩))) (first | assumption | exact HST.out _ (Below.refl _ _).drew | exact keepS3 HST.out (by assumption) (by assumption) | exact keepA3 HST.out (by assumption) _)
                      (first
                      | (revert HC8; intro HC8; (go_at_call 18; go_loud (refine Calls.mono (HC8.out.2 _ (by first | exact Below.refl _ _ | exact (Below.refl _ _).alloc (Nat.le_refl _) _) _ (by first | with_reducible exact ints1 _ _ _ | with_reducible exact (ints1b _ _ _ _).below HC8.out.1 | with_reducible exact (ints1c _ _ _ _).below HC8.out.1)) ?_; rintro e w9 ⟨v9, rfl, hb9, hc9⟩; have HC9 := HIDU hc9; have hS9 := HST.out _ hb9; clear hb9 hc9)))
                      | (revert HC9; intro HC9; (go_at_call 12; go_loud (refine Calls.mono HC9.out ?_; rintro e w10 ⟨rfl, hb10⟩; have HB10 := HIDU hb10; have hS10 := HST.out _ hb10; clear hb10)))
                      | (revert HB7; intro HB7; (go_at_call 17; go_loud (refine Calls.mono (HI2.out _ (by assumption) _ (by first | with_reducible exact ints1 _ _ _ | with_reducible exact ints1b _ _ _ _ | with_reducible exact ints1c _ _ _ _)) ?_; rintro e w8 ⟨v8, rfl, hb8, hb8', hc8⟩; have HC8 := HIDU (And.intro hb8' hc8); have hS8 := HST.out _ hb8; clear hb8 hb8' hc8)))
                      | (go_at_call 17; go_loud (refine Calls.mono (HI1.out _ (by assumption)) ?_; rintro e w5 ⟨v5, rfl, hb5, hc5⟩; have HC5 := HIDU hc5; have hS5 := HST.out _ hb5; clear hb5 hc5))
                      | (go_at_call 18; go_loud (refine Calls.mono HC5.out ?_; rintro e w6 ⟨v6, rfl, hb6, hc6⟩; have HC6 := HIDU hc6; have hS6 := HST.out _ hb6; clear hb6 hc6))
                      | (go_at_call 12; go_loud (refine Calls.mono HC6.out ?_; rintro e w7 ⟨rfl, hb7⟩; have HB7 := HIDU hb7; have hS7 := HST.out _ hb7; clear hb7)))
                    all_goals (
                      go_wp2_with fail
                      go_meet
                      case rel => exact ⟨by first | rfl | simp, KJ.out.below HB10.out⟩)
                  case rest =>
                    obtain ⟨rfl, K9⟩ := hcut
                    rename World => W9
                    clear HST HI1 HI2 KJ
                    go_wp2_with fail
                    go_roundw
                    case rel => exact ⟨k + 1, T5, S5, fb5, m5, rm5, by omega, by go_num, K9.out⟩
                    case measure => simp [intOf]; omega
          · have hlt' : ¬ ((k : Int) < (n' : Int)) := by omega
            go_wp2
            go_ret
            exact ⟨rfl, K.out.go⟩
end Dsk
end Go.Proofs.Ytbloifnibgdeoaa
namespace Go.Proofs.Ytbloifnibgdeoaa
namespace Dsk
open Go.RowKit Go.Shelf Go.Maps Go.Sort Byt Laws
set_option linter.unusedVariables false
set_option maxRecDepth 100000
set_option linter.unusedSimpArgs false

theorem Pz.mono {w : World} {T S : Nat → Nat} {W : World} {d mb : Nat} {fb : Nat → Nat} {m : Dm} {r : Nat} {rm : Rm} {P c c' : Nat} (h : Pz w T S W d mb fb m r rm P c) (hc : c ≤ c') : Pz w T S W d mb fb m r rm P c' :=
  h.pw.pz h.pair.rel h.pair.hist (by have := h.pair.szs; omega)
/-- Somebody else's step. -/
theorem Pz.other {w : World} {T S : Nat → Nat} {W W' : World} {d mb : Nat} {fb : Nat → Nat} {m : Dm} {r : Nat} {rm : Rm} {P c : Nat} {U U' : Nat → Nat} (h : Pz w T S W d mb fb m r rm P c) (g : Goes U U' W W') (hd : ∀ b, b < W.heap.size → ts T S b = 0 ∨ U b = 0) (hU : ∀ b, b < w.heap.size → U b = 0) (hP : U P = 0) : Pz w T S W' d mb fb m r rm P c :=
  ⟨⟨⟨h.pair.two.pd.other g (fun b hb => (hd b hb).imp (fun z => (ts0.1 z).1) id), h.pair.two.re.other g (fun b hb => (hd b hb).imp (fun z => (ts0.1 z).2) id), h.pair.two.apart⟩, h.pair.rel, h.pair.hist, h.pair.szs⟩, h.low, (Goes.old h.go hU g).1, cell_goes h.p0 hP g, cell_goes h.p1 hP g, h.pt⟩
/-- One pair of many. -/
structure PD where
  T : Nat → Nat
  S : Nat → Nat
  d : Nat
  mb : Nat
  fb : Nat → Nat
  m : Dm
  r : Nat
  rm : Rm
  P : Nat
def PD.is (p : PD) (w W : World) (c : Nat) : Prop := Pz w p.T p.S W p.d p.mb p.fb p.m p.r p.rm p.P c
def PD.t (p : PD) : Nat → Nat := ts p.T p.S
def ptrsD (L : List PD) : List Value := L.map fun p => .pointer (some ⟨p.P, 0, none⟩)
/-- Many pairs, and the list of them. -/
structure ManyD (w W : World) (v : Value) (L : List PD) (c : Nat) : Prop where
  each : ∀ (j : Nat) (p : PD), L[j]? = some p → p.is w W c
  apart : ∀ (i j : Nat) (p q : PD), L[i]? = some p → L[j]? = some q → i ≠ j → ∀ b, p.t b = 0 ∨ q.t b = 0
  ptr : ∀ (i j : Nat) (p q : PD), L[i]? = some p → L[j]? = some q → p.t q.P = 0
  list : W.ownsRow w.heap.size 26 1 v L.length (ptrsD L)
  tag : ∀ g, v.ownBlock = some g → ∀ (j : Nat) (p : PD), L[j]? = some p → p.t g = 0 ∧ p.P ≠ g
  go : Below w.heap.size w W
theorem PD.lt {p : PD} {w W : World} {c : Nat} (h : p.is w W c) : p.P < W.heap.size := World.block_lt_of_cell? W _ h.p0
theorem PD.fresh {p : PD} {w W : World} {c : Nat} (h : p.is w W c) {b : Nat} (hb : W.heap.size ≤ b) : p.t b = 0 := h.pair.two.fresh hb
theorem ManyD.below {w W W' : World} {v : Value} {L : List PD} {c : Nat} (h : ManyD w W v L c) (hb : Below W.heap.size W W') : ManyD w W' v L c :=
  ⟨fun j p hp => (h.each j p hp).below hb, h.apart, h.ptr, own_goes (T := fun _ => 0) (T' := fun _ => 0) h.list (fun _ _ => rfl) (Goes.below hb), h.tag, h.go.trans (hb.mono h.go.size)⟩
theorem ManyD.mono {w W : World} {v : Value} {L : List PD} {c c' : Nat} (h : ManyD w W v L c) (hc : c ≤ c') : ManyD w W v L c' := { h with each := fun j p hp => (h.each j p hp).mono hc }
/-- One of them has done a call. -/
theorem ManyD.step {w W W' : World} {v : Value} {L : List PD} {c : Nat} (h : ManyD w W v L c) {k : Nat} {p : PD} (hk : L[k]? = some p) (hd : DoIs p.T p.S W W' p.d p.mb p.r (c + 1)) : ∃ L', ManyD w W' v L' (c + 1) ∧ L'.length = L.length ∧ ptrsD L' = ptrsD L := by
  have hp := h.each k p hk
  have hkl : k < L.length := (List.getElem?_eq_some_iff.1 hk).1
  obtain ⟨T', S', fb', m', rm', hpair, g2⟩ := hd
  have g : Goes (ts p.T p.S) (ts T' S') W W' := g2.goes
  have hp' : Pz w T' S' W' p.d p.mb fb' m' p.r rm' p.P (c + 1) := by
    obtain ⟨o1, o2⟩ := Goes.old hp.go hp.low g
    exact ⟨hpair, o2, o1, cell_goes hp.p0 hp.pt g, cell_goes hp.p1 hp.pt g, (g.block p.P (World.block_lt_of_cell? W _ hp.p0) hp.pt).2⟩
  have hle : ∀ b, p.t b = 0 → b < W.heap.size → ts T' S' b = 0 := fun b h0 hb => (g.block b hb h0).2
  have hptr : ptrsD (L.set k ⟨T', S', p.d, p.mb, fb', m', p.r, rm', p.P⟩) = ptrsD L := by
    unfold ptrsD
    rw [List.map_set]
    apply List.ext_getElem?
    intro i
    by_cases e : k = i
    · subst e
      rw [List.getElem?_set_self (by simpa using hkl), List.getElem?_map, hk]
      rfl
    · rw [List.getElem?_set_ne e]
  have hget : ∀ (j : Nat) (q : PD), (L.set k ⟨T', S', p.d, p.mb, fb', m', p.r, rm', p.P⟩)[j]? = some q → (j = k ∧ q = ⟨T', S', p.d, p.mb, fb', m', p.r, rm', p.P⟩) ∨ (j ≠ k ∧ L[j]? = some q) := fun j q hq => by
    by_cases e : k = j
    · subst e
      rw [List.getElem?_set_self hkl] at hq
      injection hq with hq
      exact .inl ⟨rfl, hq.symm⟩
    · rw [List.getElem?_set_ne e] at hq
      exact .inr ⟨fun z => e z.symm, hq⟩
  have hap : ∀ (j : Nat) (q : PD), L[j]? = some q → j ≠ k → ∀ b, q.t b = 0 ∨ p.t b = 0 := fun j q hq hj b => h.apart j k q p hq hk hj b
  have hnew : ∀ (j : Nat) (q : PD), L[j]? = some q → j ≠ k → ∀ b, q.t b = 0 ∨ ts T' S' b = 0 := fun j q hq hj b => by
    by_cases hb : b < W.heap.size
    · rcases hap j q hq hj b with h1 | h1
      · exact .inl h1
      · exact .inr (hle b h1 hb)
    · exact .inl (PD.fresh (h.each j q hq) (by omega))
  refine ⟨L.set k ⟨T', S', p.d, p.mb, fb', m', p.r, rm', p.P⟩, ⟨fun j q hq => ?_, fun i j q q' hq hq' hij b => ?_, fun i j q q' hq hq' => ?_, ?_, fun b hb j q hq => ?_, (Goes.old hp.go hp.low g).1⟩, by simp, hptr⟩
  · rcases hget j q hq with ⟨rfl, rfl⟩ | ⟨hj, hq⟩
    · exact hp'
    · exact (((h.each j q hq).other g (fun b _ => hap j q hq hj b) hp.low (h.ptr k j p q hk hq)).mono (Nat.le_succ _) : PD.is q w W' (c + 1))
  · rcases hget i q hq with ⟨rfl, rfl⟩ | ⟨hi, hqL⟩ <;> rcases hget j q' hq' with ⟨rfl, rfl⟩ | ⟨hj, hqL'⟩
    · exact absurd rfl hij
    · exact (hnew j q' hqL' hj b).symm
    · exact hnew i q hqL hi b
    · exact h.apart i j q q' hqL hqL' hij b
  · rcases hget i q hq with ⟨rfl, rfl⟩ | ⟨hi, hqL⟩ <;> rcases hget j q' hq' with ⟨rfl, rfl⟩ | ⟨hj, hqL'⟩
    · exact hp'.pt
    · exact hle _ (h.ptr _ j p q' hk hqL') (PD.lt (h.each j q' hqL'))
    · exact h.ptr i _ q p hqL hk
    · exact h.ptr i j q q' hqL hqL'
  · rw [hptr, List.length_set]
    exact own_goes h.list (fun b hb => (h.tag b hb k p hk).1) g
  · have hlt := (h.list.lt b hb).2
    rcases hget j q hq with ⟨rfl, rfl⟩ | ⟨hj, hqL⟩
    · exact ⟨hle _ (h.tag b hb _ p hk).1 hlt, (h.tag b hb _ p hk).2⟩
    · exact h.tag b hb j q hqL
theorem news_oneD (w : World) (u : TypeId) (x : Value) : ∀ (j : Nat) (v : Value), [x][j]? = some v → (w.alloc (.cells #[x] u)).cell? ((⟨w.heap.size, 0, none⟩ : Addr).add j) = some v := by
  intro j v hv
  cases j with
  | zero => simp at hv; subst hv; simp [Addr.add]
  | succ j => simp at hv
/-- One more pair, begun behind the others: it has no tag on what was there. -/
theorem ManyD.push {w W W1 w1 w' : World} {v : Value} {L : List PD} {c : Nat} (h : ManyD w W v L c) (hb : Below W.heap.size W W1) {p : PD} (hp : p.is w W1 c) (hlow : ∀ b, b < W.heap.size → p.t b = 0) (hP : W.heap.size ≤ p.P) {o : Obj} (hw : w1 = W1.alloc o) {g cap : Nat} (hgr : w1.grownBy w' v.ownBlock) (hown : w'.ownsRow w.heap.size 26 1 (.slice (some ⟨g, 0, none⟩) (L.length + 1) cap) (L.length + 1) (ptrsD L ++ [.pointer (some ⟨p.P, 0, none⟩)]))
    (hat : v.ownBlock = some g ∨ g = w1.heap.size) : ManyD w w' (.slice (some ⟨g, 0, none⟩) (L.length + 1) cap) (L ++ [p]) c := by
  subst hw
  have h1 := h.below hb
  have hba : Below W1.heap.size W1 (W1.alloc o) := (Below.refl _ _).alloc (Nat.le_refl _) _
  have h2 := h1.below hba
  have hp2 : p.is w (W1.alloc o) c := Pz.below hp hba
  -- whose a block is: 1 the list's
  have hgo : Goes (fun b => if v.ownBlock = some b then 1 else 0) (fun b => if v.ownBlock = some b then 1 else 0) (W1.alloc o) w' := ⟨hgr.os, hgr.tape, hgr.output, hgr.size, fun b hbl h0 => ⟨hgr.block b hbl (fun e => by rw [if_pos e.symm] at h0; cases h0), h0⟩⟩
  have hvl : ∀ b, v.ownBlock = some b → w.heap.size ≤ b ∧ b < W.heap.size := fun b e => ⟨(h.list.lt b e).1, (h.list.lt b e).2⟩
  have hU : ∀ b, b < w.heap.size → (fun b => if v.ownBlock = some b then 1 else 0 : Nat → Nat) b = 0 := fun b hbl => if_neg (fun e => by have := (hvl b e).1; omega)
  have hdis : ∀ (j : Nat) (q : PD), (L ++ [p])[j]? = some q → (j < L.length ∧ L[j]? = some q) ∨ (j = L.length ∧ q = p) := fun j q hq => by
    by_cases e : j < L.length
    · rw [List.getElem?_append_left e] at hq
      exact .inl ⟨e, hq⟩
    · have hj : j = L.length := by
        have := (List.getElem?_eq_some_iff.1 hq).1
        simp at this; omega
      subst hj
      simp at hq
      exact .inr ⟨rfl, hq.symm⟩
  have hsz : W.heap.size ≤ W1.heap.size := hb.size
  have hg0 : ∀ (j : Nat) (q : PD), (L ++ [p])[j]? = some q → q.t g = 0 ∧ q.P ≠ g := fun j q hq => by
    rcases hdis j q hq with ⟨hj, hq⟩ | ⟨rfl, rfl⟩
    · rcases hat with e | e
      · exact h.tag g e j q hq
      · have z := (h2.each j q hq)
        exact ⟨PD.fresh z (by omega), by have := PD.lt z; omega⟩
    · rcases hat with e | e
      · exact ⟨hlow g (hvl g e).2, by have := (hvl g e).2; omega⟩
      · exact ⟨PD.fresh hp2 (by omega), by have := PD.lt hp2; omega⟩
  refine ⟨fun j q hq => ?_, fun i j q q' hq hq' hij b => ?_, fun i j q q' hq hq' => ?_, ?_, fun b e j q hq => ?_, (Goes.old h2.go hU hgo).1⟩
  · rcases hdis j q hq with ⟨hj, hq⟩ | ⟨rfl, rfl⟩
    · exact Pz.other (h2.each j q hq) hgo (fun b _ => by
        by_cases e : v.ownBlock = some b
        · exact .inl (h.tag b e j q hq).1
        · exact .inr (if_neg e)) hU (if_neg (fun e => (h.tag _ e j q hq).2 rfl))
    · exact Pz.other hp2 hgo (fun b _ => by
        by_cases e : v.ownBlock = some b
        · exact .inl (hlow b (hvl b e).2)
        · exact .inr (if_neg e)) hU (if_neg (fun e => by have := (hvl _ e).2; omega))
  · rcases hdis i q hq with ⟨hi, hqL⟩ | ⟨rfl, rfl⟩ <;> rcases hdis j q' hq' with ⟨hj, hqL'⟩ | ⟨rfl, rfl⟩
    · exact h.apart i j q q' hqL hqL' hij b
    · by_cases hbl : b < W.heap.size
      · exact .inr (hlow b hbl)
      · exact .inl (PD.fresh (h.each i q hqL) (by omega))
    · by_cases hbl : b < W.heap.size
      · exact .inl (hlow b hbl)
      · exact .inr (PD.fresh (h.each j q' hqL') (by omega))
    · exact absurd rfl hij
  · rcases hdis i q hq with ⟨hi, hqL⟩ | ⟨rfl, rfl⟩ <;> rcases hdis j q' hq' with ⟨hj, hqL'⟩ | ⟨rfl, rfl⟩
    · exact h.ptr i j q q' hqL hqL'
    · exact PD.fresh (h.each i q hqL) hP
    · exact hlow _ (PD.lt (h.each j q' hqL'))
    · exact hp.pt
  · rw [show ptrsD (L ++ [p]) = ptrsD L ++ [.pointer (some ⟨p.P, 0, none⟩)] by simp [ptrsD], List.length_append]
    exact hown
  · simp only [Value.ownBlock, Option.some.injEq] at e
    subst e
    exact hg0 j q hq
theorem ManyD.at_ {w W : World} {g cap n : Nat} {L : List PD} {c : Nat} (h : ManyD w W (.slice (some ⟨g, 0, none⟩) n cap) L c) (hn : n = L.length) {k : Nat} {p : PD} (hk : L[k]? = some p) : W.cell? ⟨g, k, none⟩ = some (.pointer (some ⟨p.P, 0, none⟩)) := by
  have hkl : k < L.length := (List.getElem?_eq_some_iff.1 hk).1
  have hl := h.list
  subst hn
  rw [hl.cellAt _ (by omega)]
  unfold ptrsD
  rw [List.getElem?_map, hk]
  rfl
theorem ManyD.same {w W : World} {g cap n : Nat} {L L' : List PD} {c : Nat} (h : ManyD w W (.slice (some ⟨g, 0, none⟩) n cap) L' c) (hn : L'.length = n) (hp : ptrsD L' = ptrsD L) {k : Nat} {p : PD} (hk : L[k]? = some p) {Pm : Nat} (hP : p.P = Pm) : W.cell? ⟨g, k, none⟩ = some (.pointer (some ⟨Pm, 0, none⟩)) := by
  have e : (ptrsD L')[k]? = some (.pointer (some ⟨Pm, 0, none⟩)) := by
    rw [hp]
    unfold ptrsD
    rw [List.getElem?_map, hk, ← hP]
    rfl
  have hkl : k < L'.length := by
    have := (List.getElem?_eq_some_iff.1 e).1
    unfold ptrsD at this
    rwa [List.length_map] at this
  have hl := h.list
  subst hn
  rw [hl.cellAt _ (by omega)]
  exact e
/-- What begin answers, with both disks' tags. -/
def BegIsP (w : World) (R : Int) (fs : List Fj) (e : Ending) (w' : World) : Prop := (okNew R fs = false ∧ e = .returned (.tuple #[.pointer none, .bool true])) ∨ (okNew R fs = true ∧ ∃ P d r mb T fb S, e = .returned (.tuple #[.pointer (some ⟨P, 0, none⟩), .bool true]) ∧ w'.cell? ⟨P, 0, none⟩ = some (.pointer (some ⟨d, 0, none⟩)) ∧ w'.cell? ⟨P, 1, none⟩ = some (.pointer (some ⟨r, 0, none⟩)) ∧ ts T S P = 0 ∧ Two T S w' d mb fb (newM R.toNat fs) r { newR R.toNat fs with su := (newR R.toNat fs).now } ∧ (∀ b, b < w.heap.size → ts T S b = 0) ∧ w.heap.size ≤ P)
attribute [local go_sem ↓] Go.wp_at_zero Go.wp_at_succ
set_option maxHeartbeats 4000000 in
theorem begin3_any (R : Int) (hR : R ≤ 9223372036854775807) (a : Option Addr) (n c : Nat) (fs : List Fj) (ds : List (Option Addr × Nat)) (w : World) (h : FjAt w a fs ds) (hn : fs.length = n) (hc : n ≤ c) (hc2 : c ≤ 9223372036854775807) (hl : ∀ f ∈ fs, f.data.length ≤ 140737488355328) (hl2 : n ≤ 2932031007402) :
    Calls Try.prog 10 #[.int .i64 R, .slice a n c] w fun e w' => Below w.heap.size w w' ∧ BegIsP w R fs e w' := by
  have HTW : Hid _ := ltwin_any a n c fs ds w h hn.symm hc hc2 hl hl2
  have HF : Hid (FjAt w a fs ds ∧ fs.length = n ∧ n ≤ c ∧ c ≤ 9223372036854775807 ∧ (∀ f ∈ fs, f.data.length ≤ 140737488355328) ∧ R ≤ 9223372036854775807) := ⟨h, hn, hc, hc2, hl, hR⟩
  clear h hn hc hc2 hl hl2
  go_enter Try.func10, Try.ntmps10
  go_wp2_with fail
  refine Calls.mono HTW.out ?_
  rintro e w1 ⟨v1, ds1, rfl, hfo, hb1⟩
  obtain ⟨a1, c1, rfl, hlc, hcc, hfa⟩ := hfo.at_ HF.out.1
  rw [HF.out.2.1] at hlc ⊢
  have HPN : Hid _ := pnew2_any R HF.out.2.2.2.2.2 a1 n c1 fs ds1 w1 hfa HF.out.2.1 hlc hcc
  have HB1 := HIDD hb1
  clear hfo hlc hcc hfa hb1 HTW
  go_wp2_with fail
  refine Calls.mono HPN.out ?_
  rintro e w2 ⟨hb2, hans⟩
  have HB2 := HIDD (keepB hb2 HB1.out)
  have HRN : Hid _ := rnew_any R HF.out.2.2.2.2.2 a n c fs ds w2 (HF.out.1.below HB2.out) HF.out.2.1 HF.out.2.2.1 HF.out.2.2.2.1 HF.out.2.2.2.2.1
  clear hb2 HPN
  rcases hans with ⟨hok, rfl⟩ | ⟨hok, d, mb, T, fb, rfl, hpd, htl⟩
  · have HOK := HIDD hok
    clear hok
    go_wp2_with fail
    refine Calls.mono HRN.out ?_
    rintro e w3 ⟨hb3, hans3⟩
    rcases hans3 with ⟨hok3, rfl⟩ | ⟨hok3, _⟩
    · have HB3 := HIDD (keepB hb3 HB2.out)
      clear hok3 hb3 HRN
      go_wp2
      go_ret2
      exact ⟨HB3.out, .inl ⟨HOK.out, rfl⟩⟩
    · rw [HOK.out] at hok3; cases hok3
  · have HOK := HIDD hok
    have HPD := HIDD (And.intro hpd htl)
    clear hok hpd htl
    go_wp2_with fail
    refine Calls.mono HRN.out ?_
    rintro e w3 ⟨hb3, hans3⟩
    rcases hans3 with ⟨hok3, rfl⟩ | ⟨hok3, r, S, gb, vf, vn, vs, vc, hrge, rfl, hrd, hrl⟩
    · rw [HOK.out] at hok3; cases hok3
    · have HB3 := HIDD (keepB hb3 HB2.out)
      have hb4 : Below w3.heap.size w3 (w3.alloc (.cells #[.pointer (some ⟨d, 0, none⟩), .pointer (some ⟨r, 0, none⟩)] 39)) := (Below.refl _ _).alloc (Nat.le_refl _) _
      have g4 : (w3.alloc (.cells #[.pointer (some ⟨d, 0, none⟩), .pointer (some ⟨r, 0, none⟩)] 39)).heap[w3.heap.size]? = some (.cells #[.pointer (some ⟨d, 0, none⟩), .pointer (some ⟨r, 0, none⟩)] 39) := heap_alloc_new w3 _
      have hap : ∀ b, T b = 0 ∨ S b = 0 := fun b => by
        by_cases hb : b < w2.heap.size
        · exact .inr (hrl b hb)
        · exact .inl (HPD.out.1.fresh (by omega))
      have htw : Two T S (w3.alloc (.cells #[.pointer (some ⟨d, 0, none⟩), .pointer (some ⟨r, 0, none⟩)] 39)) d mb fb (newM R.toNat fs) r { newR R.toNat fs with su := (newR R.toNat fs).now } := ⟨(HPD.out.1.below hb3).below hb4, (Re.of hrd).below hb4, hap⟩
      have HFI : Hid (Below w.heap.size w (w3.alloc (.cells #[.pointer (some ⟨d, 0, none⟩), .pointer (some ⟨r, 0, none⟩)] 39)) ∧ BegIsP w R fs (.returned (.tuple #[.pointer (some ⟨w3.heap.size, 0, none⟩), .bool true])) (w3.alloc (.cells #[.pointer (some ⟨d, 0, none⟩), .pointer (some ⟨r, 0, none⟩)] 39))) :=
        ⟨keepB hb4 HB3.out, .inr ⟨HOK.out, w3.heap.size, d, r, mb, T, fb, S, rfl, by rw [cell_of g4]; rfl, by rw [cell_of g4]; rfl, ts0.2 ⟨HPD.out.1.fresh hb3.size, (Re.of hrd).fresh (Nat.le_refl _)⟩, htw, fun b hb => ts0.2 ⟨HPD.out.2 b (Nat.lt_of_lt_of_le hb HB1.out.size), hrl b (Nat.lt_of_lt_of_le hb HB2.out.size)⟩, HB3.out.size⟩⟩
      clear hb4 g4 hb3 hok3 hrd hrge HRN hap htw hrl
      go_wp2
      go_ret2
      exact HFI.out
end Dsk
end Go.Proofs.Ytbloifnibgdeoaa
namespace Go.Proofs.Ytbloifnibgdeoaa
namespace Dsk
open Go.RowKit Go.Shelf Go.Maps Go.Sort Byt Laws
set_option linter.unusedVariables false
set_option maxRecDepth 100000
set_option linter.unusedSimpArgs false
attribute [local go_sem ↓] Go.wp_at_zero Go.wp_at_succ

theorem undPp : Try.prog.underlying 48 = some (.slice 26) := by kernel_rfl
theorem infoPp : (Try.prog.info? 26).map (fun i => (i.zero, i.size, i.bytes)) = some (some (.pointer none), 1, 8) := by kernel_rfl
theorem many_cells {W : World} {b off k g mm P : Nat} {os : List OpD} {o : OpD} (h : OpsAt W (some ⟨b, off, none⟩) os) (hk : os[k]? = some o) (h0 : W.cell? ⟨g, mm, none⟩ = some (.pointer (some ⟨P, 0, none⟩))) : W.cell? ⟨g, mm, none⟩ = some (.pointer (some ⟨P, 0, none⟩)) ∧ W.cell? ⟨b, off + k * 8, none⟩ = some (.int .i64 o.kind) ∧ W.cell? ⟨b, off + k * 8 + 1, none⟩ = some (.string o.name) ∧ W.cell? ⟨b, off + k * 8 + 2, none⟩ = some (.string o.too) ∧ W.cell? ⟨b, off + k * 8 + 3, none⟩ = some (.slice o.da o.data.length o.dc) ∧ W.cell? ⟨b, off + k * 8 + 4, none⟩ = some (.int .i64 o.x) ∧ W.cell? ⟨b, off + k * 8 + 5, none⟩ = some (.int .i64 o.y) ∧ W.cell? ⟨b, off + k * 8 + 6, none⟩ = some (.int .i64 o.z) ∧ W.cell? ⟨b, off + k * 8 + 7, none⟩ = some (.slice o.ka o.keep.length o.kc) := by
  obtain ⟨b', off', e, hbl, hcl⟩ := h.at_ k o hk
  obtain ⟨rfl, rfl⟩ : b' = b ∧ off' = off := by injection e with e; injection e with e1 e2; exact ⟨e1.symm, e2.symm⟩
  exact ⟨h0, hcl 0 (by omega), hcl 1 (by omega), hcl 2 (by omega), hcl 3 (by omega), hcl 4 (by omega), hcl 5 (by omega), hcl 6 (by omega), hcl 7 (by omega)⟩
theorem tmod_natD (j nn : Nat) : ((j : Int)).tmod (nn : Int) = ((j % nn : Nat) : Int) := rfl
theorem tdiv_natD (j nn : Nat) : ((j : Int)).tdiv (nn : Int) = ((j / nn : Nat) : Int) := rfl
set_option maxHeartbeats 8000000 in
theorem many3_any (w : World) (a : Option Addr) (n c : Nat) (fs : List Fj) (ds : List (Option Addr × Nat)) (h : FjAt w a fs ds) (hn : fs.length = n) (hc : n ≤ c) (hc2 : c ≤ 9223372036854775807) (hl : ∀ f ∈ fs, f.data.length ≤ 140737488355328) (hl2 : n ≤ 2932031007402) (a' : Option Addr) (n' c' : Nat) (os : List OpD) (ho : OpsAt w a' os) (hn' : n' = os.length) (hc' : n' ≤ c') (hc2' : c' ≤ 9223372036854775807) (N : Int) :
    Calls Try.prog 6 #[.slice a n c, .slice a' n' c', .int .i64 N] w fun e w' => e = .returned (.bool true) ∧ Below w.heap.size w w' := by
  have HF : Hid (FjAt w a fs ds ∧ fs.length = n ∧ n ≤ c ∧ c ≤ 9223372036854775807 ∧ (∀ f ∈ fs, f.data.length ≤ 140737488355328) ∧ n ≤ 2932031007402) := ⟨h, hn, hc, hc2, hl, hl2⟩
  have HO : Hid (OpsAt w a' os ∧ n' = os.length ∧ n' ≤ c' ∧ c' ≤ 9223372036854775807) := ⟨ho, hn', hc', hc2'⟩
  obtain ⟨i0, hi0, hz0, hz1, hz2⟩ := info_parts infoPp
  clear h hn hc hc2 hl hl2 ho hn' hc' hc2'
  go_enter Try.func6, Try.ntmps6
  go_wp2_with fail
  refine (known_any w).mono ?_
  rintro e w1 ⟨rfl, hb1⟩
  have HB1 := HIDD hb1
  have HSM : Hid _ := small_both a n c fs ds a' n' c' os w1 (HF.out.1.below hb1) HF.out.2.1.symm HF.out.2.2.1 HF.out.2.2.2.1 HF.out.2.2.2.2.1 (ops_below HO.out.1 hb1) HO.out.2.1 HO.out.2.2.1 HO.out.2.2.2
  clear hb1
  go_wp2_with fail
  refine Calls.mono HSM.out ?_
  rintro e w2 ⟨⟨bs, rfl, hbs⟩, q, rfl⟩
  have HB2 : Hid (Below w.heap.size w (w1.drewN q)) := below_drewN HB1.out q
  have HS := HIDD hbs
  clear HSM HB1 hbs
  generalize w1.drewN q = w2 at *
  cases bs with
  | false =>
    go_wp2
    go_ret
    exact ⟨rfl, HB2.out⟩
  | true =>
    have HLE : Hid (os.length ≤ 400 ∧ sumO os ≤ 1048576) := ⟨(HS.out (by first | rfl | trivial)).2.2, (HS.out (by first | rfl | trivial)).2.1⟩
    clear HS
    by_cases h2 : N < 2
    · go_wp2
      go_ret
      exact ⟨rfl, HB2.out⟩
    · by_cases h24 : 24 < N
      · go_wp2
        go_ret
        exact ⟨rfl, HB2.out⟩
      · obtain ⟨cnt, rfl⟩ : ∃ cnt : Nat, N = (cnt : Int) := ⟨N.toNat, by omega⟩
        have hn4 : n' ≤ 400 := by rw [HO.out.2.1]; exact HLE.out.1
        have hcnt : 2 ≤ cnt ∧ cnt ≤ 24 := by omega
        obtain ⟨hcnt2, hcnt24⟩ := hcnt
        go_wp2_with fail
        go_loopw [8, 9] (fun v i wr => ∃ (k : Nat) (aa : Option Addr) (cc : Nat) (L : List PD), k ≤ cnt ∧ v = .slice aa k cc ∧ i = .int .i64 (k : Int) ∧ Hid (L.length = k) ∧ Hid (ManyD w wr (.slice aa k cc) L 0)) (fun _ i _ => cnt - (intOf i).toNat)
        case atStart => exact ⟨0, none, 0, [], Nat.zero_le _, rfl, rfl, rfl, ⟨(fun j p hp => by simp at hp), (fun i j p q hp => by simp at hp), (fun i j p q hp => by simp at hp), World.ownsRow_nil _ _ _ _, (fun g e => by simp [Value.ownBlock] at e), HB2.out⟩⟩
        case round =>
          clear HB2
          obtain ⟨k, aa, cc, L, hk, rfl, rfl, HLn, HM⟩ := hrel
          rename World => W
          by_cases hlt : k < cnt
          · as_aux_lemma =>
              have hkl := HLn.out
              subst hkl
              have dk : (L.length : Int) < (cnt : Int) := by omega
              have HBG : Hid _ := begin3_any 0 (by omega) a n c fs ds W (HF.out.1.below HM.out.go) HF.out.2.1 HF.out.2.2.1 HF.out.2.2.2.1 HF.out.2.2.2.2.1 HF.out.2.2.2.2.2
              go_wp2_with fail
              refine Calls.mono HBG.out ?_
              rintro e w4 ⟨hb4, hans⟩
              clear HBG
              rcases hans with ⟨hok, rfl⟩ | ⟨hok, P, d, r, mb, T0, fb0, S0, rfl, p0, p1, pt, htw, hlow, hPl⟩
              · have HB4 : Hid (Below w.heap.size w w4) := HM.out.go.trans (hb4.mono HM.out.go.size)
                clear hok hb4
                go_wp2
                go_ret
                exact ⟨rfl, HB4.out⟩
              · have K0 : Hid (PD.is ⟨T0, S0, d, mb, fb0, newM (0 : Int).toNat fs, r, { newR (0 : Int).toNat fs with su := (newR (0 : Int).toNat fs).now }, P⟩ w w4 0 ∧ (∀ b, b < W.heap.size → ts T0 S0 b = 0) ∧ W.heap.size ≤ P ∧ Below W.heap.size W w4) := ⟨Pz.first HM.out.go hb4 p0 p1 pt htw hlow hok, hlow, hPl, hb4⟩
                clear hok hb4 p0 p1 pt htw hlow hPl
                have X1 : Hid ((w4.alloc (.cells #[.pointer (some ⟨P, 0, none⟩)] 26)).ownsRow w.heap.size 26 1 (.slice aa L.length cc) L.length (ptrsD L)) := (HM.out.below K0.out.2.2.2).list.alloc _
                have X2 : Hid _ := news_oneD w4 26 (.pointer (some ⟨P, 0, none⟩))
                have X3 : Hid (∀ u ∈ [Value.pointer (some ⟨P, 0, none⟩)], u.oneCell' = true) := by intro u hu; simp at hu; subst hu; rfl
                have X4 : Hid (L.length + 1 ≤ maxLen) := by show _ ≤ _; unfold maxLen; omega
                have X5 : Hid ((L.length + 1) * 8 ≤ 140737488355328) := by show _ ≤ _; omega
                have X6 : Hid (∀ {g7 : Nat}, g7 = w4.heap.size + 1 → g7 = (w4.alloc (.cells #[.pointer (some ⟨P, 0, none⟩)] 26)).heap.size) := by intro g7 e; rw [e]; simp
                have X8 : Hid (w.heap.size ≤ (w4.alloc (.cells #[.pointer (some ⟨P, 0, none⟩)] 26)).heap.size) := by
                  have z1 := HM.out.go.size
                  have z2 := K0.out.2.2.2.size
                  show _ ≤ _
                  simp
                  omega
                have X7 : Hid (∀ (g7 c7 : Nat) (w7 : World), w7.ownsRow w.heap.size 26 1 (.slice (some ⟨g7, 0, none⟩) (L.length + 1) c7) (L.length + 1) (ptrsD L ++ [.pointer (some ⟨P, 0, none⟩)]) → (w4.alloc (.cells #[.pointer (some ⟨P, 0, none⟩)] 26)).grownBy w7 (Value.slice aa L.length cc).ownBlock → ((Value.slice aa L.length cc).ownBlock = some g7 ∨ g7 = w4.heap.size + 1) → ∃ L', Hid (L'.length = L.length + 1) ∧ Hid (ManyD w w7 (.slice (some ⟨g7, 0, none⟩) (L.length + 1) c7) L' 0)) := fun g7 c7 w7 q1 q2 q3 => ⟨_, (show List.length _ = _ by rw [List.length_append]; rfl), HM.out.push K0.out.2.2.2 K0.out.1 K0.out.2.1 K0.out.2.2.1 rfl q2 q1 (q3.imp id X6.out)⟩
                clear HM K0
                go_wp2_with (at_builtin; go_loud (refine wpList_app _ (by rfl) (.tmp 49) (.tmp 51) 48 (by rfl) w.heap.size 26 i0 (.pointer none) 1 8 undPp hi0 hz0 hz1 hz2 rfl (by omega) (.slice aa L.length cc) L.length (ptrsD L) (by rfl) X1.out ⟨w4.heap.size, 0, none⟩ 1 1 [.pointer (some ⟨P, 0, none⟩)] (by rfl) (by rfl) X2.out X3.out (fun _ => Nat.one_pos) X4.out X5.out X8.out (w4.heap.size + 1) (by simp) ?_; intro g7 c7 w7 hown7 hgr7 hat7 hlt7; obtain ⟨L7, HL7, HM7⟩ := X7.out g7 c7 w7 hown7 hgr7 hat7; clear hown7 hgr7 hat7 hlt7))
                go_roundw
                case rel => exact ⟨L.length + 1, some ⟨g7, 0, none⟩, c7, L7, by omega, rfl, by go_num, HL7, HM7⟩
                case measure => simp [intOf]; omega
          · as_aux_lemma =>
              obtain rfl : k = cnt := by omega
              have dk : ¬ ((k : Int) < (k : Int)) := by omega
              obtain ⟨g, rfl⟩ : ∃ g, aa = some ⟨g, 0, none⟩ := by
                rcases HM.out.list.2 with ⟨q1, q2⟩ | ⟨g, cap, cur, hv, _⟩
                · have := HLn.out; omega
                · simp only [Value.slice.injEq] at hv
                  exact ⟨g, hv.1⟩
              go_wp2_with fail
              go_loopw [12] (fun i wr => ∃ (j : Nat) (L : List PD), j ≤ n' ∧ i = .int .i64 (j : Int) ∧ Hid (L.length = k) ∧ Hid (ManyD w wr (.slice (some ⟨g, 0, none⟩) k cc) L j)) (fun i _ => n' - (intOf i).toNat)
              case atStart => exact ⟨0, L, Nat.zero_le _, rfl, HLn, HM⟩
              case round =>
                clear HLn HM
                obtain ⟨j, L, hj, rfl, HLn, HM⟩ := hrel
                rename World => W
                by_cases hlt : j < n'
                · as_aux_lemma =>
                    have hlt' : (j : Int) < (n' : Int) := by omega
                    have hks : j < os.length := by rw [← HO.out.2.1]; exact hlt
                    obtain ⟨o, ho⟩ : ∃ o, os[j]? = some o := ⟨_, List.getElem?_eq_getElem hks⟩
                    have hom := List.mem_of_getElem? ho
                    obtain ⟨b, off, rfl, hbl, hcl⟩ := (ops_below HO.out.1 HM.out.go).at_ j o ho
                    obtain ⟨h5, hh5⟩ : ∃ h5 : Nat, j / 5 = h5 := ⟨_, rfl⟩
                    obtain ⟨mm, hmm, hmk⟩ : ∃ mm : Nat, (j * 7 + h5) % k = mm ∧ mm < k := ⟨_, rfl, Nat.mod_lt _ (by omega)⟩
                    obtain ⟨p, hp⟩ : ∃ p, L[mm]? = some p := ⟨_, List.getElem?_eq_getElem (by rw [HLn.out]; exact hmk)⟩
                    have HP : Hid (L[mm]? = some p ∧ p.is w W j ∧ o.keep.length ≤ 1048576 ∧ o ∈ os ∧ os[j]? = some o) := ⟨hp, HM.out.each mm p hp, keep_le ho HLE.out.2, hom, ho⟩
                    have w7 : IntKind.i64.wrap ((j : Int) * 7) = (j : Int) * 7 := IntWalk.i64_in _ (by omega)
                    have d5 : (j : Int).tdiv 5 = (h5 : Int) := by rw [← hh5]; rfl
                    have d5' : (j : Int) / 5 = (h5 : Int) := by rw [← hh5]; rfl
                    have w8 : IntKind.i64.wrap ((j : Int) * 7 + (h5 : Int)) = (j : Int) * 7 + (h5 : Int) := IntWalk.i64_in _ (by omega)
                    have w9 : IntKind.i64.wrap (h5 : Int) = (h5 : Int) := IntWalk.i64_in _ (by omega)
                    have w10 : IntKind.i64.wrap (mm : Int) = (mm : Int) := IntWalk.i64_in _ (by omega)
                    have e8 : (j : Int) * 7 + (h5 : Int) = ((j * 7 + h5 : Nat) : Int) := by push_cast; rfl
                    have t8 : ((j : Int) * 7 + (h5 : Int)).tmod (k : Int) = (mm : Int) := by
                      rw [← hmm, e8]
                      rfl
                    have t8' : ((j : Int) * 7 + (h5 : Int)) % (k : Int) = (mm : Int) := by
                      rw [← hmm, e8]
                      rfl
                    clear e8 hh5
                    have hk0 : ¬ ((k : Int) = 0) := by omega
                    have hk0' : ¬ k = 0 := by omega
                    have hk0b : ((k : Int) == 0) = false := by simp [hk0']
                    have hmk' : (mm : Int) < (k : Int) := by omega
                    obtain ⟨Pm, hPm⟩ : ∃ Pm, p.P = Pm := ⟨_, rfl⟩
                    have cm : W.cell? ⟨g, mm, none⟩ = some (.pointer (some ⟨Pm, 0, none⟩)) := by rw [← hPm]; exact HM.out.at_ HLn.out.symm hp
                    have HD : Hid (Calls Try.prog 11 #[.pointer (some ⟨Pm, 0, none⟩), .agg #[.int .i64 o.kind, .string o.name, .string o.too, .slice o.da o.data.length o.dc, .int .i64 o.x, .int .i64 o.y, .int .i64 o.z, .slice o.ka o.keep.length o.kc]] W.drew fun e w' => e = .returned (.bool true) ∧ DoIs p.T p.S W.drew w' p.d p.mb p.r (j + 1)) := by
                      rw [← hPm]
                      have K : Pz w p.T p.S W.drew p.d p.mb p.fb p.m p.r p.rm p.P j := Pz.below HP.out.2.1 (Below.refl _ _).drew
                      exact does_any K.pair (by omega) K.p0 K.p1 K.pt o (opOk_below (HO.out.1.ok o HP.out.2.2.2.1) K.go) (fun hne ad e => K.low _ (isB_lt (HO.out.1.ok o HP.out.2.2.2.1).isB hne ad e)) (fun hne ad e => K.low _ (ints_lt (HO.out.1.ok o HP.out.2.2.2.1).ints hne ad e)) HP.out.2.2.1
                    have HS : Hid (∀ X, Below w.heap.size w X → X.cell? ⟨g, mm, none⟩ = some (.pointer (some ⟨Pm, 0, none⟩)) → True) := fun _ _ _ => trivial
                    have hS1 := many_cells (ops_below HO.out.1 (HM.out.below (Below.refl _ _).drew).go) HP.out.2.2.2.2 (((Below.refl W.heap.size W).drew.cell (p := ⟨g, mm, none⟩) (World.block_lt_of_cell? W _ cm)).trans cm)
                    clear hcl ho hks hom hbl hmm hp HS
                    go_wp2_with fail
                    go_region_held3 (fun W => W.cell? ⟨g, mm, none⟩ = some (.pointer (some ⟨Pm, 0, none⟩)) ∧ W.cell? ⟨b, off + j * 8, none⟩ = some (.int .i64 o.kind) ∧ W.cell? ⟨b, off + j * 8 + 1, none⟩ = some (.string o.name) ∧ W.cell? ⟨b, off + j * 8 + 2, none⟩ = some (.string o.too) ∧ W.cell? ⟨b, off + j * 8 + 3, none⟩ = some (.slice o.da o.data.length o.dc) ∧ W.cell? ⟨b, off + j * 8 + 4, none⟩ = some (.int .i64 o.x) ∧ W.cell? ⟨b, off + j * 8 + 5, none⟩ = some (.int .i64 o.y) ∧ W.cell? ⟨b, off + j * 8 + 6, none⟩ = some (.int .i64 o.z) ∧ W.cell? ⟨b, off + j * 8 + 7, none⟩ = some (.slice o.ka o.keep.length o.kc)) (first | assumption | exact hS1)
                      (first
                      | (go_at_call 11; go_loud (refine Calls.mono HD.out ?_; rintro e w5 ⟨rfl, hdo⟩; obtain ⟨L5, hM5, hL5, hp5⟩ := (HM.out.below (Below.refl _ _).drew).step HP.out.1 hdo; have HM5 := HIDU hM5; have HL5 : Hid (L5.length = k) := hL5.trans HLn.out; have hS5 := many_cells (k := j) (P := Pm) (g := g) (mm := mm) (ops_below HO.out.1 HM5.out.go) HP.out.2.2.2.2 (HM5.out.same HL5.out hp5 HP.out.1 hPm); clear hdo hM5 hL5 hp5)))
                    all_goals (
                      go_wp2_with fail
                      go_roundw
                      case rel => exact ⟨j + 1, L5, by omega, by go_num, HL5, HM5⟩
                      case measure => simp [intOf]; omega)
                · as_aux_lemma =>
                    have hlt' : ¬ ((j : Int) < (n' : Int)) := by omega
                    have HMm : Hid (ManyD w W (.slice (some ⟨g, 0, none⟩) k cc) L 900) := HM.out.mono (by omega)
                    clear HM
                    go_wp2_with fail
                    go_loopw [13] (fun i wr => ∃ j : Nat, j ≤ k ∧ i = .int .i64 (j : Int) ∧ Hid (ManyD w wr (.slice (some ⟨g, 0, none⟩) k cc) L 900)) (fun i _ => k - (intOf i).toNat)
                    case atStart => exact ⟨0, Nat.zero_le _, rfl, HMm.out⟩
                    case round =>
                      clear HMm hlt hlt' hj
                      obtain ⟨j, hj, rfl, HM⟩ := hrel
                      rename World => W
                      by_cases hjk : j < k
                      · as_aux_lemma =>
                          have hjk' : (j : Int) < (k : Int) := by omega
                          obtain ⟨p, hp⟩ : ∃ p, L[j]? = some p := ⟨_, List.getElem?_eq_getElem (by rw [HLn.out]; exact hjk)⟩
                          have HK : Hid (∃ T S d mb fb m r rm Pm, p.P = Pm ∧ p.d = d ∧ p.r = r ∧ Hid (Pz w T S W d mb fb m r rm Pm 900)) := ⟨_, _, _, _, _, _, _, _, _, rfl, rfl, rfl, HM.out.each j p hp⟩
                          obtain ⟨T, S, d, mb, fb, m, r, rm, Pm, hPm, hpd, hpr, K⟩ := HK.out
                          have cm : W.cell? ⟨g, j, none⟩ = some (.pointer (some ⟨Pm, 0, none⟩)) := by rw [← hPm]; exact HM.out.at_ HLn.out.symm hp
                          have HCM : Hid (∀ X, Below W.heap.size W X → X.cell? ⟨g, j, none⟩ = some (.pointer (some ⟨Pm, 0, none⟩)) ∧ X.cell? ⟨Pm, 0, none⟩ = some (.pointer (some ⟨d, 0, none⟩)) ∧ X.cell? ⟨Pm, 1, none⟩ = some (.pointer (some ⟨r, 0, none⟩))) := fun X hX => ⟨(hX.cell (p := ⟨g, j, none⟩) (World.block_lt_of_cell? W _ cm)).trans cm, (K.out.below hX).cells⟩
                          have HI1 : Hid (∀ X, Below W.heap.size W X → Calls Try.prog 17 #[.pointer (some ⟨d, 0, none⟩), .int .i64 1, .slice none 0 0] X fun e w' => ∃ v, e = .returned v ∧ Below W.heap.size W w' ∧ Calls Try.prog 18 #[.pointer (some ⟨r, 0, none⟩), .int .i64 1, .slice none 0 0] w' fun e w'' => ∃ v', e = .returned v' ∧ Below W.heap.size W w'' ∧ Calls Try.prog 12 #[v, v'] w'' fun e w3 => e = .returned (.bool true) ∧ Below W.heap.size W w3) := fun X hX => by
                            refine (K.out.imgC (by omega) 1 (by omega) [] (by simp) 0 rfl hX none 0 (ints_none _) (by omega) (by omega)).mono ?_
                            rintro e w' ⟨v, rfl, hb, _, hc⟩
                            exact ⟨v, rfl, hb, hc w' (Below.refl _ _) none 0 (ints_none _) (by omega) (by omega)⟩
                          have hS1 := HCM.out _ (Below.refl _ _).drew
                          clear hp hPm hpd hpr HK cm
                          go_wp2_with fail
                          go_region_held3 (fun W => W.cell? ⟨g, j, none⟩ = some (.pointer (some ⟨Pm, 0, none⟩)) ∧ W.cell? ⟨Pm, 0, none⟩ = some (.pointer (some ⟨d, 0, none⟩)) ∧ W.cell? ⟨Pm, 1, none⟩ = some (.pointer (some ⟨r, 0, none⟩))) (first | assumption | exact hS1)
                            (first
                            | (revert HC9; intro HC9; (go_at_call 12; go_loud (refine Calls.mono HC9.out ?_; rintro e w10 ⟨rfl, hb10⟩; have HB10 := HIDU hb10; have hS10 := HCM.out _ hb10; clear hb10)))
                            | (go_at_call 13; go_loud (refine (K.out.filC (by omega) (Below.refl _ _).drew).mono ?_; rintro e w5 ⟨v5, rfl, hb5, hc5⟩; have HC5 := HIDU hc5; have hS5 := HCM.out _ hb5; clear hb5 hc5))
                            | (go_at_call 14; go_loud (refine Calls.mono HC5.out ?_; rintro e w6 ⟨v6, rfl, hb6, hc6⟩; have HC6 := HIDU hc6; have hS6 := HCM.out _ hb6; clear hb6 hc6))
                            | (go_at_call 12; go_loud (refine Calls.mono HC6.out ?_; rintro e w7 ⟨rfl, hb7⟩; have HB7 := HIDU hb7; have hS7 := HCM.out _ hb7; clear hb7))
                            | (go_at_call 17; go_loud (refine Calls.mono (HI1.out _ HB7.out) ?_; rintro e w8 ⟨v8, rfl, hb8, hc8⟩; have HC8 := HIDU hc8; have hS8 := HCM.out _ hb8; clear hb8 hc8))
                            | (go_at_call 18; go_loud (refine Calls.mono HC8.out ?_; rintro e w9 ⟨v9, rfl, hb9, hc9⟩; have HC9 := HIDU hc9; have hS9 := HCM.out _ hb9; clear hb9 hc9)))
                          all_goals (
                            go_wp2_with fail
                            go_roundw
                            case rel => exact ⟨j + 1, by omega, by go_num, HM.out.below HB10.out⟩
                            case measure => simp [intOf]; omega)
                      · have hjk' : ¬ (j : Int) < (k : Int) := by omega
                        go_wp2
                        go_ret
                        exact ⟨rfl, HM.out.go⟩
end Dsk
end Go.Proofs.Ytbloifnibgdeoaa
namespace Go.Proofs.Ytbloifnibgdeoaa
namespace DiskMany
open Go.ChangeShapes Go.WideShapes Go.ChangeAt Go.RowKit Byt Dsk
set_option linter.unusedVariables false
set_option maxRecDepth 100000

set_option maxRecDepth 100000 in
set_option maxHeartbeats 1000000 in
theorem lifted (os : Os) (started : os.Started) (H : Type) (enc : TypeId × Value → H) :
    ReturnsInHanded {} Try.checked os 6 .any (Rows.diskManySpec.pre6 enc Try.prog Try.f6 Rows.diskManyRow.domain false) (Rows.diskManySpec.post enc Try.prog Try.f6 false true false false) := by
  refine returnsInHanded_of_change_sized (C := Try.checked) Opn.own started (by kernel_rfl) Try.func6
    (ChangeSpec.witness6 (enc := enc) (C := Try.checked) false ⟨#[], #[.slice none 0 0, .slice none 0 0, .int .i64 0], []⟩ 8 (by kernel_rfl) (by kernel_rfl) (by kernel_rfl) (by kernel_rfl)) ?_
  intro W base args ds gs before hval0 hW _ hsz0 _
  have hsz : (DataW.weightsEach Try.prog (Try.f6.params.toList ++ Rows.diskManySpec.plain.varTypes Try.prog) (ds ++ gs)).all (· ≤ reachBytes) = true := hsz0
  clear hsz0
  have hval : ∀ (j : Nat) t v, Try.f6.params[j]? = some t → args[j]? = some v → Value.okWide Try.prog W .any base t v := hval0
  have hW' := hW
  obtain ⟨p, q, hA0, hV, rfl, hfz, hnd⟩ := hW
  have hA : DataW.TrodAll enc Try.prog W 0 (fun _ => true) true Try.f6.params.toList args.toList ds p := hA0
  rw [Try.params6] at hA hval hsz
  obtain ⟨v0, vs0, d0, ds0, p0, q0, hargs, rfl, rfl, h0, r0⟩ := trodAll_cons hA
  obtain ⟨v1, vs1, d1, ds1, p1, q1, rfl, rfl, rfl, h1, r1⟩ := trodAll_cons r0
  obtain ⟨v2, vs2, d2, ds2, p2, q2, rfl, rfl, rfl, h2, r2⟩ := trodAll_cons r1
  obtain ⟨rfl, rfl, rfl⟩ := trodAll_nil r2
  obtain rfl : args = #[v0, v1, v2] := by cases args; simp_all
  obtain ⟨rfl, rfl⟩ := trodVars_none hV
  have lt0 : ∀ x ∈ p0, x.block < W.heap.size := by obtain ⟨m, hm⟩ := h0; exact DataW.trod_lt m _ _ _ hm
  obtain ⟨a0, cap0, l0, e0, rfl, ib0, lc0, cm0, re0⟩ := Opn.files (hval 0 22 v0 rfl rfl) h0
  have sz0 := Opn.reachF (fs := l0) (j := 0) hsz rfl rfl re0
  have lt1 : ∀ x ∈ p1, x.block < W.heap.size := by obtain ⟨m, hm⟩ := h1; exact DataW.trod_lt m _ _ _ hm
  obtain ⟨a1, cap1, S1, rfl, sc1, le1, cm1⟩ := Opn.opsD (hval 1 23 v1 rfl rfl) h1 (Opn.wt_arg (j := 1) hsz rfl rfl)
  obtain ⟨n2, rfl, rfl, rfl, wf2⟩ := open_int Try.underlying3 (hval 2 3 v2 rfl rfl) h2
  clear hA0 hval0
  refine (many3_any W a0 _ cap0 l0 e0 ib0 rfl lc0 cm0 sz0.2 sz0.1 a1 S1.length cap1 S1 sc1 rfl le1 cm1 n2).mono fun e W' ⟨he, bel⟩ => ?_
  subst he
  exact ⟨_, rfl, _, _, _, [], _, [], hW', trodAll_mk1 (shut_bool Try.underlying4 _), (trodAll_cons_mk (Below.trod Opn.laidOut (by kernel_rfl) (of_decide_eq_true (by kernel_rfl)) h0 bel lt0) (trodAll_cons_mk (Below.trod Opn.laidOut (by kernel_rfl) (of_decide_eq_true (by kernel_rfl)) h1 bel lt1) (trodAll_cons_mk (shut_int Try.underlying3 wf2) trodAll_mk0))), rfl, bel.frame _, fun h => by cases h⟩
end DiskMany

theorem diskMany_holds : Rows.DiskManySaid :=
  OpenClaim.holds_of_wide 6 Try.f6 rfl rfl rfl rfl rfl rfl rfl ⟨rfl, rfl, rfl, rfl, rfl⟩ rfl rfl rfl rfl rfl (by kernel_rfl) Try.func6 (by kernel_rfl)
    (of_decide_eq_true (by kernel_rfl)) (by unfold Func.isWrapper; first | (rw [if_pos (by decide +kernel)]; kernel_rfl) | (rw [if_neg (by decide +kernel)]; exact ⟨rfl, rfl⟩))
    (fun os started H enc _ => DiskMany.lifted os started H enc)
end Go.Proofs.Ytbloifnibgdeoaa
