import Derived.Test.YtfomnkkpiflokaaSa3
import Derived.Deep.RegionLaw
import Derived.Deep.RegionHeld3
import Derived.Deep.DeepCutAuto
import Derived.BigQuiet
namespace Go.Proofs.Ytfomnkkpiflokaa
namespace SkipAll
open Go.RowKit Laws Irw Erw KMath Skm Byt Rom Sk
set_option linter.unusedVariables false
set_option maxRecDepth 100000
set_option linter.unusedSimpArgs false

/-- one call of the script -/
abbrev OpS := Int × Bool × En × Int
def oz : OpS := (0, false, ez, 0)
def ORow (w : World) (b off : Nat) (l : List OpS) : Prop := b < w.heap.size ∧ ∀ (i : Nat) (o : OpS), l[i]? = some o → w.cell? ⟨b, off + i * 7, none⟩ = some (.int .i64 o.1) ∧ w.cell? ⟨b, off + i * 7 + 1, none⟩ = some (.bool o.2.1) ∧ w.cell? ⟨b, off + i * 7 + 2, none⟩ = some (.string o.2.2.1.1) ∧ w.cell? ⟨b, off + i * 7 + 3, none⟩ = some (.int .u64 o.2.2.1.2.1) ∧ w.cell? ⟨b, off + i * 7 + 4, none⟩ = some (.bool o.2.2.1.2.2.1) ∧ w.cell? ⟨b, off + i * 7 + 5, none⟩ = some (.string o.2.2.1.2.2.2) ∧ w.cell? ⟨b, off + i * 7 + 6, none⟩ = some (.int .i64 o.2.2.2)
def IsO (w : World) (a : Option Addr) (l : List OpS) : Prop := l ≠ [] → ∃ b off, a = some ⟨b, off, none⟩ ∧ ORow w b off l
theorem ORow.below {w w' : World} {b off : Nat} {l : List OpS} (h : ORow w b off l) (hb : Below w.heap.size w w') : ORow w' b off l := by
  have e : ∀ j, w'.cell? ⟨b, j, none⟩ = w.cell? ⟨b, j, none⟩ := fun j => World.cell?_of_block (hb.block b h.1)
  exact ⟨Nat.lt_of_lt_of_le h.1 hb.size, fun i o ho => by simp only [e]; exact h.2 i o ho⟩
theorem IsO.below {w w' : World} {a : Option Addr} {l : List OpS} (h : IsO w a l) (hb : Below w.heap.size w w') : IsO w' a l := fun hne => by
  obtain ⟨b, off, e, hr⟩ := h hne
  exact ⟨b, off, e, hr.below hb⟩
theorem IsO.at_ {w : World} {a : Option Addr} {l : List OpS} (h : IsO w a l) {k : Nat} (hk : k < l.length) : ∃ b off, a = some ⟨b, off, none⟩ ∧ b < w.heap.size ∧ w.cell? ⟨b, off + k * 7, none⟩ = some (.int .i64 (l.getD k oz).1) ∧ w.cell? ⟨b, off + k * 7 + 1, none⟩ = some (.bool (l.getD k oz).2.1) ∧ w.cell? ⟨b, off + k * 7 + 2, none⟩ = some (.string (l.getD k oz).2.2.1.1) ∧ w.cell? ⟨b, off + k * 7 + 3, none⟩ = some (.int .u64 (l.getD k oz).2.2.1.2.1) ∧ w.cell? ⟨b, off + k * 7 + 4, none⟩ = some (.bool (l.getD k oz).2.2.1.2.2.1) ∧ w.cell? ⟨b, off + k * 7 + 5, none⟩ = some (.string (l.getD k oz).2.2.1.2.2.2) ∧ w.cell? ⟨b, off + k * 7 + 6, none⟩ = some (.int .i64 (l.getD k oz).2.2.2) := by
  obtain ⟨b, off, e, hr⟩ := h (by rintro rfl; simp at hk)
  exact ⟨b, off, e, hr.1, hr.2 k (l.getD k oz) (by simp [hk])⟩

/-- behind the room's first list -/
theorem lent1 {w W1 w2 : World} {g1 c1 n1 : Nat} {v0 v1 : Value} (hw1 : Below w.heap.size w W1) (hk : Keep [w.heap.size] W1 w2) : Below w.heap.size w w2 :=
  hw1.trans ⟨hk.os, hk.tape, hk.output, hk.size, fun b hb => hk.block b (Nat.lt_of_lt_of_le hb hw1.size) (by simp; omega)⟩
theorem lent2 {w w2 w3 : World} {R0 : Nat} {v0 v1 : Value} {hs : List Lent} (hw2 : Below w.heap.size w w2) (hrm : Rm w2 R0 w.heap.size v0 v1 hs) (hk : Keep (R0 :: (v0.ownBlock.toList ++ v1.ownBlock.toList)) w2 w3) : Below w.heap.size w w3 ∧ ∀ x ∈ hs, w3.heap[x.1]? = w2.heap[x.1]? := by
  have h0 := hrm.base
  refine ⟨hw2.trans ⟨hk.os, hk.tape, hk.output, hk.size, fun b hb => hk.block b (Nat.lt_of_lt_of_le hb hw2.size) (fun hm => ?_)⟩, fun x hx => ?_⟩
  · simp only [List.mem_cons, List.mem_append, Option.mem_toList] at hm
    rcases hm with rfl | hm | hm
    · omega
    · have := (hrm.o0.lt b hm).1; omega
    · have := (hrm.o1.lt b hm).1; omega
  · obtain ⟨a1, a2, a3, a4, a5, _⟩ := hrm.lent x hx
    refine hk.block x.1 a5.1 (fun hm => ?_)
    simp only [List.mem_cons, List.mem_append, Option.mem_toList] at hm
    rcases hm with hm | hm | hm
    · exact a2 hm
    · exact a3 hm
    · exact a4 hm


/-- the two boxes of a round -/
structure Two (w w' : World) (P O L R : Nat) (kind : Int) (sec : Bool) (xk : ByteArray) (xs : Int) (xd : Bool) (xv : ByteArray) (nn : Int) : Prop where
  bel : Below w.heap.size w w'
  pge : w.heap.size ≤ P
  oge : w.heap.size ≤ O
  ne : P ≠ O
  plt : P < w'.heap.size
  olt : O < w'.heap.size
  pob : w'.heap[P]? = some (.cells #[.pointer (some ⟨L, 0, none⟩), .pointer (some ⟨R, 0, none⟩)] 48)
  oob : w'.heap[O]? = some (.cells #[.int .i64 kind, .bool sec, .string xk, .int .u64 xs, .bool xd, .string xv, .int .i64 nn] 55)

theorem two_po {w : World} {L R : Nat} {kind : Int} {sec : Bool} {xk : ByteArray} {xs : Int} {xd : Bool} {xv : ByteArray} {nn : Int} : Two w ((w.alloc (.cells #[.pointer (some ⟨L, 0, none⟩), .pointer (some ⟨R, 0, none⟩)] 48)).alloc (.cells #[.int .i64 kind, .bool sec, .string xk, .int .u64 xs, .bool xd, .string xv, .int .i64 nn] 55)).drew w.heap.size (w.heap.size + 1) L R kind sec xk xs xd xv nn := by
  refine ⟨(((Below.refl _ _).alloc (Nat.le_refl _) _).alloc (by simp) _).drew, by omega, by omega, by omega, ?_, ?_, ?_, ?_⟩
  · show w.heap.size < (World.alloc _ _).heap.size; simp; omega
  · show w.heap.size + 1 < (World.alloc _ _).heap.size; simp
  · show (World.alloc _ _).heap[w.heap.size]? = _
    rw [Below.heap_alloc _ _ _ (by simp)]; exact World.alloc_heap_new _ _
  · show (World.alloc _ _).heap[w.heap.size + 1]? = _
    have := World.alloc_heap_new (w.alloc (.cells #[.pointer (some ⟨L, 0, none⟩), .pointer (some ⟨R, 0, none⟩)] 48)) (.cells #[.int .i64 kind, .bool sec, .string xk, .int .u64 xs, .bool xd, .string xv, .int .i64 nn] 55)
    rwa [World.size_alloc] at this
theorem two_op {w : World} {L R : Nat} {kind : Int} {sec : Bool} {xk : ByteArray} {xs : Int} {xd : Bool} {xv : ByteArray} {nn : Int} : Two w ((w.alloc (.cells #[.int .i64 kind, .bool sec, .string xk, .int .u64 xs, .bool xd, .string xv, .int .i64 nn] 55)).alloc (.cells #[.pointer (some ⟨L, 0, none⟩), .pointer (some ⟨R, 0, none⟩)] 48)).drew (w.heap.size + 1) w.heap.size L R kind sec xk xs xd xv nn := by
  refine ⟨(((Below.refl _ _).alloc (Nat.le_refl _) _).alloc (by simp) _).drew, by omega, by omega, by omega, ?_, ?_, ?_, ?_⟩
  · show w.heap.size + 1 < (World.alloc _ _).heap.size; simp
  · show w.heap.size < (World.alloc _ _).heap.size; simp; omega
  · show (World.alloc _ _).heap[w.heap.size + 1]? = _
    have := World.alloc_heap_new (w.alloc (.cells #[.int .i64 kind, .bool sec, .string xk, .int .u64 xs, .bool xd, .string xv, .int .i64 nn] 55)) (.cells #[.pointer (some ⟨L, 0, none⟩), .pointer (some ⟨R, 0, none⟩)] 48)
    rwa [World.size_alloc] at this
  · show (World.alloc _ _).heap[w.heap.size]? = _
    rw [Below.heap_alloc _ _ _ (by simp)]; exact World.alloc_heap_new _ _
/-- what the boxes hold -/
structure Hold2 (W : World) (P O L R : Nat) (kind : Int) (sec : Bool) (xk : ByteArray) (xs : Int) (xd : Bool) (xv : ByteArray) (nn : Int) : Prop where
  p0 : W.cell? ⟨P, 0, none⟩ = some (.pointer (some ⟨L, 0, none⟩))
  p1 : W.cell? ⟨P, 1, none⟩ = some (.pointer (some ⟨R, 0, none⟩))
  o0 : W.cell? ⟨O, 0, none⟩ = some (.int .i64 kind)
  o1 : W.cell? ⟨O, 1, none⟩ = some (.bool sec)
  o2 : W.cell? ⟨O, 2, none⟩ = some (.string xk)
  o3 : W.cell? ⟨O, 3, none⟩ = some (.int .u64 xs)
  o4 : W.cell? ⟨O, 4, none⟩ = some (.bool xd)
  o5 : W.cell? ⟨O, 5, none⟩ = some (.string xv)
  o6 : W.cell? ⟨O, 6, none⟩ = some (.int .i64 nn)
theorem Two.hold {w w' : World} {P O L R : Nat} {kind : Int} {sec : Bool} {xk : ByteArray} {xs : Int} {xd : Bool} {xv : ByteArray} {nn : Int} (h : Two w w' P O L R kind sec xk xs xd xv nn) : Hold2 w' P O L R kind sec xk xs xd xv nn :=
  ⟨by rw [cell_of_obj h.pob]; rfl, by rw [cell_of_obj h.pob]; rfl, by rw [cell_of_obj h.oob]; rfl, by rw [cell_of_obj h.oob]; rfl, by rw [cell_of_obj h.oob]; rfl, by rw [cell_of_obj h.oob]; rfl, by rw [cell_of_obj h.oob]; rfl, by rw [cell_of_obj h.oob]; rfl, by rw [cell_of_obj h.oob]; rfl⟩
theorem Hold2.keep {W W' : World} {P O L R : Nat} {kind : Int} {sec : Bool} {xk : ByteArray} {xs : Int} {xd : Bool} {xv : ByteArray} {nn : Int} (h : Hold2 W P O L R kind sec xk xs xd xv nn) (hp : W'.heap[P]? = W.heap[P]?) (ho : W'.heap[O]? = W.heap[O]?) : Hold2 W' P O L R kind sec xk xs xd xv nn :=
  ⟨(World.cell?_of_block (a := ⟨P, 0, none⟩) hp).trans h.p0, (World.cell?_of_block (a := ⟨P, 1, none⟩) hp).trans h.p1, (World.cell?_of_block (a := ⟨O, 0, none⟩) ho).trans h.o0, (World.cell?_of_block (a := ⟨O, 1, none⟩) ho).trans h.o1, (World.cell?_of_block (a := ⟨O, 2, none⟩) ho).trans h.o2, (World.cell?_of_block (a := ⟨O, 3, none⟩) ho).trans h.o3, (World.cell?_of_block (a := ⟨O, 4, none⟩) ho).trans h.o4, (World.cell?_of_block (a := ⟨O, 5, none⟩) ho).trans h.o5, (World.cell?_of_block (a := ⟨O, 6, none⟩) ho).trans h.o6⟩
theorem Hold2.below {W W' : World} {P O L R : Nat} {kind : Int} {sec : Bool} {xk : ByteArray} {xs : Int} {xd : Bool} {xv : ByteArray} {nn : Int} (h : Hold2 W P O L R kind sec xk xs xd xv nn) (hb : Below W.heap.size W W') : Hold2 W' P O L R kind sec xk xs xd xv nn := h.keep (hb.block _ (World.block_lt_of_cell? W _ h.p0)) (hb.block _ (World.block_lt_of_cell? W _ h.o0))
/-- the second pair is taken -/
theorem Two.second {w W : World} {P O L R L2 R2 : Nat} {kind : Int} {sec : Bool} {xk : ByteArray} {xs : Int} {xd : Bool} {xv : ByteArray} {nn : Int} (h : Two w W P O L R kind sec xk xs xd xv nn) : Below w.heap.size w ((W.setCell ⟨P, 0, none⟩ (.pointer (some ⟨L2, 0, none⟩))).setCell ⟨P, 1, none⟩ (.pointer (some ⟨R2, 0, none⟩))) ∧ Hold2 ((W.setCell ⟨P, 0, none⟩ (.pointer (some ⟨L2, 0, none⟩))).setCell ⟨P, 1, none⟩ (.pointer (some ⟨R2, 0, none⟩))) P O L2 R2 kind sec xk xs xd xv nn := by
  have hh := h.hold
  have eo : ((W.setCell ⟨P, 0, none⟩ (.pointer (some ⟨L2, 0, none⟩))).setCell ⟨P, 1, none⟩ (.pointer (some ⟨R2, 0, none⟩))).heap[O]? = W.heap[O]? := by
    rw [Below.heap_setCell _ _ _ _ (by simpa using h.ne.symm), Below.heap_setCell _ _ _ _ (by simpa using h.ne.symm)]
  refine ⟨(h.bel.setCell (p := ⟨P, 0, none⟩) h.pge _).setCell (p := ⟨P, 1, none⟩) h.pge _, ⟨?_, ?_, (World.cell?_of_block (a := ⟨O, 0, none⟩) eo).trans hh.o0, (World.cell?_of_block (a := ⟨O, 1, none⟩) eo).trans hh.o1, (World.cell?_of_block (a := ⟨O, 2, none⟩) eo).trans hh.o2, (World.cell?_of_block (a := ⟨O, 3, none⟩) eo).trans hh.o3, (World.cell?_of_block (a := ⟨O, 4, none⟩) eo).trans hh.o4, (World.cell?_of_block (a := ⟨O, 5, none⟩) eo).trans hh.o5, (World.cell?_of_block (a := ⟨O, 6, none⟩) eo).trans hh.o6⟩⟩
  · rw [World.cell?_setCell_other _ ⟨P, 1, none⟩ ⟨P, 0, none⟩ _ (by simp)]
    exact World.cell?_setCell_same _ _ _ hh.p0
  · refine World.cell?_setCell_same _ _ _ (u := .pointer (some ⟨R, 0, none⟩)) ?_
    rw [World.cell?_setCell_other _ ⟨P, 0, none⟩ ⟨P, 1, none⟩ _ (by simp)]
    exact hh.p1

theorem s6_of {W : World} {P O L R : Nat} {kind : Int} {sec : Bool} {xk : ByteArray} {xs : Int} {xd : Bool} {xv : ByteArray} {nn : Int} (h : Hold2 W P O L R kind sec xk xs xd xv nn) : W.cell? ⟨P, 0, none⟩ = some (.pointer (some ⟨L, 0, none⟩)) ∧ W.cell? ⟨P, 1, none⟩ = some (.pointer (some ⟨R, 0, none⟩)) ∧ W.cell? ⟨O, 2, none⟩ = some (.string xk) ∧ W.cell? ⟨O, 3, none⟩ = some (.int .u64 xs) ∧ W.cell? ⟨O, 4, none⟩ = some (.bool xd) ∧ W.cell? ⟨O, 5, none⟩ = some (.string xv) := ⟨h.p0, h.p1, h.o2, h.o3, h.o4, h.o5⟩
theorem s6_alloc {W : World} {P O : Nat} {v0 v1 v2 v3 v4 v5 : Value} (h : W.cell? ⟨P, 0, none⟩ = some v0 ∧ W.cell? ⟨P, 1, none⟩ = some v1 ∧ W.cell? ⟨O, 2, none⟩ = some v2 ∧ W.cell? ⟨O, 3, none⟩ = some v3 ∧ W.cell? ⟨O, 4, none⟩ = some v4 ∧ W.cell? ⟨O, 5, none⟩ = some v5) (o : Obj) : (W.alloc o).cell? ⟨P, 0, none⟩ = some v0 ∧ (W.alloc o).cell? ⟨P, 1, none⟩ = some v1 ∧ (W.alloc o).cell? ⟨O, 2, none⟩ = some v2 ∧ (W.alloc o).cell? ⟨O, 3, none⟩ = some v3 ∧ (W.alloc o).cell? ⟨O, 4, none⟩ = some v4 ∧ (W.alloc o).cell? ⟨O, 5, none⟩ = some v5 := by
  have hb : Below W.heap.size W (W.alloc o) := (Below.refl _ _).alloc (Nat.le_refl _) _
  exact ⟨Und.cell h.1 ⟨_, hb⟩, Und.cell h.2.1 ⟨_, hb⟩, Und.cell h.2.2.1 ⟨_, hb⟩, Und.cell h.2.2.2.1 ⟨_, hb⟩, Und.cell h.2.2.2.2.1 ⟨_, hb⟩, Und.cell h.2.2.2.2.2 ⟨_, hb⟩⟩
theorem hold_goes {T T' : Nat → Nat} {W W' : World} {P O L R : Nat} {kind : Int} {sec : Bool} {xk : ByteArray} {xs : Int} {xd : Bool} {xv : ByteArray} {nn : Int} (h : Hold2 W P O L R kind sec xk xs xd xv nn) (hg : Goes (· = 9) T W T' W') (hP : T P = 0) (hO : T O = 0) : Hold2 W' P O L R kind sec xk xs xd xv nn :=
  h.keep (hg.block _ (World.block_lt_of_cell? W _ h.p0) (by rw [hP]; omega)) (hg.block _ (World.block_lt_of_cell? W _ h.o0) (by rw [hO]; omega))
set_option maxHeartbeats 8000000 in
theorem walk (w : World) (ad : Option Addr) (cd : Nat) (da : List Nat) (hd : IsB w ad da) (hdn : ad = none → cd = 0) (hd47 : da.length + 600 ≤ 140737488355328) (ao : Option Addr) (co : Nat) (db : List Nat) (ho : IsB w ao db) (hon : ao = none → co = 0) (ho47 : db.length + 600 ≤ 140737488355328) (a : Option Addr) (c : Nat) (sc : List OpS) (hs : IsO w a sc) (hbd : ∀ o ∈ sc, -9223372036854775808 ≤ o.2.2.2 ∧ o.2.2.2 ≤ 9223372036854775807) (hlen : sc.length ≤ 1954687338268) :
    Calls Try.prog 3 #[.slice ad da.length cd, .slice ao db.length co, .slice a sc.length c] w fun e w' => e = .returned (.bool true) ∧ Below w.heap.size w w' := by
  have HD : Hid (IsB w ad da ∧ (ad = none → cd = 0) ∧ da.length + 600 ≤ 140737488355328) := ⟨hd, hdn, hd47⟩
  have HO : Hid (IsB w ao db ∧ (ao = none → co = 0) ∧ db.length + 600 ≤ 140737488355328) := ⟨ho, hon, ho47⟩
  obtain ⟨iK, hiK, hzK0, hzK1, hzK2⟩ := info_parts infoK
  have HS : Hid (IsO w a sc) := hs
  have HBD : Hid (∀ o ∈ sc, -9223372036854775808 ≤ o.2.2.2 ∧ o.2.2.2 ≤ 9223372036854775807) := hbd
  obtain ⟨NS, hNS⟩ : ∃ NS, sc.length = NS := ⟨_, rfl⟩
  obtain ⟨NA, hNA⟩ : ∃ NA, da.length = NA := ⟨_, rfl⟩
  obtain ⟨NB, hNB⟩ : ∃ NB, db.length = NB := ⟨_, rfl⟩
  have HN : Hid (sc.length = NS ∧ da.length = NA ∧ db.length = NB) := ⟨hNS, hNA, hNB⟩
  rw [hNS] at hlen ⊢
  rw [hNA] at hd47 ⊢
  rw [hNB] at ho47 ⊢
  have yS : (NS : Int) ≤ 1954687338268 := by omega
  have yA : (NA : Int) ≤ 140737488354728 := by omega
  have yB : (NB : Int) ≤ 140737488354728 := by omega
  have hb1 : Below w.heap.size w (w.alloc roomZ) := (Below.refl _ _).alloc (Nat.le_refl _) _
  have HRM1 : Hid (Rm (w.alloc roomZ) w.heap.size w.heap.size (.slice none 0 0) (.slice none 0 0) []) := room_new w w.heap.size (Nat.le_refl _)
  have HB1 : Hid (Below w.heap.size w (w.alloc roomZ)) := hb1
  clear hd hdn ho hon hs hbd hNS hNA hNB hlen hd47 ho47 hb1
  go_enter Try.func3, Try.ntmps3
  go_upto_region 2 with (fail)
  generalize w.alloc roomZ = W1 at *
  have HBY1 : Hid (Calls Try.prog 7 #[.pointer (some ⟨w.heap.size, 0, none⟩), .slice ad NA cd] W1 fun e w' => ∃ g c v0' v1', e = .returned (.slice (some ⟨g, 0, none⟩) NA (NA + 600)) ∧ Rm w' w.heap.size w.heap.size v0' v1' [(g, NA, c)] ∧ BRow w' g 0 da ∧ W1.heap.size ≤ g ∧ Keep [w.heap.size] W1 w') := by
    have := bytes_any w.heap.size w.heap.size (.slice none 0 0) (.slice none 0 0) [] ad cd da W1 HRM1.out (by simp) HD.out.2.1 (HD.out.1.below HB1.out) HD.out.2.2
    rw [HN.out.2.1] at this
    exact this.mono fun e w' ⟨g, c, v0, v1, q1, q2, q3, q4, _, _, q7⟩ => ⟨g, c, v0, v1, q1, q2, q3, q4, q7⟩
  go_wp2_with fail
  refine Calls.mono HBY1.out ?_
  rintro e w2 ⟨g1, c1, v0, v1, rfl, hrm2, hrow1, hg1, hk2⟩
  have HB2 : Hid (Below w.heap.size w w2) := lent1 (g1 := 0) (c1 := 0) (n1 := 0) (v0 := v0) (v1 := v1) HB1.out hk2
  have HRM2 : Hid (Rm w2 w.heap.size w.heap.size v0 v1 [(g1, NA, c1)] ∧ BRow w2 g1 0 da) := ⟨hrm2, hrow1⟩
  clear hrm2 hrow1 hg1 hk2 HBY1 HRM1
  have HBY2 : Hid (Calls Try.prog 7 #[.pointer (some ⟨w.heap.size, 0, none⟩), .slice ao NB co] w2 fun e w' => ∃ g c v0' v1', e = .returned (.slice (some ⟨g, 0, none⟩) NB (NB + 600)) ∧ Rm w' w.heap.size w.heap.size v0' v1' [(g1, NA, c1), (g, NB, c)] ∧ BRow w' g 0 db ∧ w2.heap.size ≤ g ∧ Keep (w.heap.size :: (v0.ownBlock.toList ++ v1.ownBlock.toList)) w2 w') := by
    have := bytes_any w.heap.size w.heap.size v0 v1 [(g1, NA, c1)] ao co db w2 HRM2.out.1 (by simp) HO.out.2.1 (HO.out.1.below HB2.out) HO.out.2.2
    rw [HN.out.2.2] at this
    exact this.mono fun e w' ⟨g, c, v0, v1, q1, q2, q3, q4, _, _, q7⟩ => ⟨g, c, v0, v1, q1, q2, q3, q4, q7⟩
  go_wp2_with fail
  refine Calls.mono HBY2.out ?_
  rintro e w3 ⟨g2, c2, u0, u1, rfl, hrm3, hrow2, hg2, hk3⟩
  obtain ⟨hbw3, hsame⟩ := lent2 HB2.out HRM2.out.1 hk3
  have HB3 : Hid (Below w.heap.size w w3) := hbw3
  have HRM3 : Hid (Rm w3 w.heap.size w.heap.size u0 u1 [(g1, NA, c1), (g2, NB, c2)] ∧ BRow w3 g1 0 da ∧ BRow w3 g2 0 db ∧ g1 ≠ g2) := ⟨hrm3, HRM2.out.2.keep (hsame _ (List.mem_cons_self ..)) hk3.size, hrow2, by have := HRM2.out.2.1; omega⟩
  clear hrm3 hrow2 hg2 hk3 hbw3 hsame HBY2 HRM2 HB2
  generalize hR0 : w.heap.size = R0 at *
  have HR0 : Hid (w.heap.size = R0) := hR0
  clear hR0
  have HNEW1 : Hid (Calls Try.prog 8 #[.slice (some ⟨g1, 0, none⟩) NA (NA + 600)] w3 fun e w' => ∃ L T', e = .returned (.pointer (some ⟨L, 0, none⟩)) ∧ w3.heap.size ≤ L ∧ Sl 1 T' w' L da [] ∧ Goes (fun _ => False) (upd (fun _ => 0) g1 7) w3 T' w') := new_any 1 (upd (fun _ => 0) g1 7) w3 _ NA (NA + 600) da (IsB.some HRM3.out.2.1 HD.out.1.2) HN.out.2.1.symm (by simp) (by have := HD.out.2.2; omega)
  go_wp2_with fail
  refine Calls.mono HNEW1.out ?_
  rintro e w4 ⟨La, T4, rfl, hLa, hsl4, hgo4⟩
  have HS4 : Hid (Sl 1 T4 w4 La da [] ∧ Goes (fun _ => False) (upd (fun _ => 0) g1 7) w3 T4 w4) := ⟨hsl4, hgo4⟩
  have hb34 : Below w3.heap.size w3 w4 := ⟨hgo4.os, hgo4.tape, hgo4.output, hgo4.size, fun b hb => hgo4.block b hb (fun z => z)⟩
  have HB4 : Hid (Below w.heap.size w w4) := by
    have h1 : Below w.heap.size w w3 := by rw [HR0.out]; exact HB3.out
    exact keepB hb34 h1
  have HZ4 : Hid (∀ b, w4.heap.size ≤ b → T4 b = 0) := goes_zero hgo4 (fun b hb => upd_other _ _ (by have := HRM3.out.2.1.1; omega))
  clear hLa hsl4 hgo4 hb34 HNEW1
  have HREF1 : Hid (Calls Try.prog 9 #[.slice ad NA cd] w4 fun e w' => ∃ R bs, e = .returned (.pointer (some ⟨R, 0, none⟩)) ∧ w4.heap.size ≤ R ∧ (∀ b ∈ bs, w4.heap.size ≤ b) ∧ Rl w' R da [] [] bs ∧ Below w4.heap.size w4 w') := refNew_any w4 ad NA cd da (HD.out.1.below HB4.out) HN.out.2.1.symm HD.out.2.1 (by have := HD.out.2.2; omega)
  go_wp2_with fail
  refine Calls.mono HREF1.out ?_
  rintro e w5 ⟨Ra, ba, rfl, hRa, hba, hrl5, hb45⟩
  obtain ⟨hp5, hgo5⟩ := pr_first (u := 5) HS4.out.1 HZ4.out hrl5 hb45 hRa hba
  have HP5 : Hid (∃ T5, Pr 1 5 T5 w5 La Ra da [] ba ∧ Goes (fun _ => False) (upd (fun _ => 0) g1 7) w3 T5 w5) := ⟨_, hp5, HS4.out.2.trans hgo5⟩
  have HB5 : Hid (Below w.heap.size w w5) := keepB hb45 HB4.out
  have hb56 : Below w5.heap.size w5 (w5.alloc (.cells #[.pointer (some ⟨La, 0, none⟩), .pointer (some ⟨Ra, 0, none⟩)] 48)) := (Below.refl _ _).alloc (Nat.le_refl _) _
  have gA : (w5.alloc (.cells #[.pointer (some ⟨La, 0, none⟩), .pointer (some ⟨Ra, 0, none⟩)] 48)).heap[w5.heap.size]? = some (.cells #[.pointer (some ⟨La, 0, none⟩), .pointer (some ⟨Ra, 0, none⟩)] 48) := World.alloc_heap_new _ _
  clear hRa hba hrl5 hb45 hp5 hgo5 HREF1 HS4 HZ4 HB4
  go_upto_region 4 with (fail)
  generalize w5.alloc (.cells #[.pointer (some ⟨La, 0, none⟩), .pointer (some ⟨Ra, 0, none⟩)] 48) = W6 at *
  have HB6 : Hid (Below w5.heap.size w5 W6 ∧ W6.heap[w5.heap.size]? = some (.cells #[.pointer (some ⟨La, 0, none⟩), .pointer (some ⟨Ra, 0, none⟩)] 48)) := ⟨hb56, gA⟩
  obtain ⟨A, hA⟩ : ∃ A, w5.heap.size = A := ⟨_, rfl⟩
  have HA : Hid (w5.heap.size = A) := hA
  rw [hA]
  clear hA hb56 gA
  obtain ⟨T5, hp5, hgo5⟩ := HP5.out
  have HQ5 : Hid (Pr 1 5 T5 w5 La Ra da [] ba ∧ Goes (fun _ => False) (upd (fun _ => 0) g1 7) w3 T5 w5) := ⟨hp5, hgo5⟩
  have hbl36 : Below w3.heap.size w3 W6 := by
    have h1 : Below w3.heap.size w3 w5 := ⟨hgo5.os, hgo5.tape, hgo5.output, hgo5.size, fun b hb => hgo5.block b hb (fun z => z)⟩
    exact keepB HB6.out.1 h1
  have HBL36 : Hid (Below w3.heap.size w3 W6) := hbl36
  have HZ6 : Hid (∀ b, W6.heap.size ≤ b → T5 b = 0) := fun b hb => goes_zero hgo5 (fun b hb => upd_other _ _ (by have := HRM3.out.2.1.1; omega)) b (Nat.le_trans HB6.out.1.size hb)
  clear hp5 hgo5 HP5 hbl36
  have HNEW2 : Hid (Calls Try.prog 8 #[.slice (some ⟨g2, 0, none⟩) NB (NB + 600)] W6 fun e w' => ∃ L T', e = .returned (.pointer (some ⟨L, 0, none⟩)) ∧ W6.heap.size ≤ L ∧ Sl 3 T' w' L db [] ∧ Goes (fun _ => False) T5 W6 T' w') := new_any 3 T5 W6 _ NB (NB + 600) db (IsB.some (HRM3.out.2.2.1.below HBL36.out HRM3.out.2.2.1.1) HO.out.1.2) HN.out.2.2.symm (by simp) (by have := HO.out.2.2; omega)
  go_wp2_with fail
  refine Calls.mono HNEW2.out ?_
  rintro e w7 ⟨Lb, T7, rfl, hLb, hsl7, hgo7⟩
  have hb67 : Below W6.heap.size W6 w7 := ⟨hgo7.os, hgo7.tape, hgo7.output, hgo7.size, fun b hb => hgo7.block b hb (fun z => z)⟩
  have HS7 : Hid (Sl 3 T7 w7 Lb db [] ∧ Goes (fun _ => False) T5 W6 T7 w7) := ⟨hsl7, hgo7⟩
  have HB7 : Hid (Below w.heap.size w w7) := keepB (keepB hb67 HB6.out.1) HB5.out
  have HZ7 : Hid (∀ b, w7.heap.size ≤ b → T7 b = 0) := goes_zero hgo7 HZ6.out
  clear hLb hsl7 hgo7 hb67 HNEW2
  have HREF2 : Hid (Calls Try.prog 9 #[.slice ao NB co] w7 fun e w' => ∃ R bs, e = .returned (.pointer (some ⟨R, 0, none⟩)) ∧ w7.heap.size ≤ R ∧ (∀ b ∈ bs, w7.heap.size ≤ b) ∧ Rl w' R db [] [] bs ∧ Below w7.heap.size w7 w') := refNew_any w7 ao NB co db (HO.out.1.below HB7.out) HN.out.2.2.symm HO.out.2.1 (by have := HO.out.2.2; omega)
  go_wp2_with fail
  refine Calls.mono HREF2.out ?_
  rintro e w8 ⟨Rb, bb, rfl, hRb, hbb, hrl8, hb78⟩
  obtain ⟨hp8, hgo8⟩ := pr_first (u := 6) HS7.out.1 HZ7.out hrl8 hb78 hRb hbb
  have HP8 : Hid (∃ T8, Pr 3 6 T8 w8 Lb Rb db [] bb ∧ Goes (fun _ => False) T5 W6 T8 w8) := ⟨_, hp8, HS7.out.2.trans hgo8⟩
  have hb89 : Below w8.heap.size w8 (w8.alloc (.cells #[.pointer (some ⟨Lb, 0, none⟩), .pointer (some ⟨Rb, 0, none⟩)] 48)) := (Below.refl _ _).alloc (Nat.le_refl _) _
  have gB : (w8.alloc (.cells #[.pointer (some ⟨Lb, 0, none⟩), .pointer (some ⟨Rb, 0, none⟩)] 48)).heap[w8.heap.size]? = some (.cells #[.pointer (some ⟨Lb, 0, none⟩), .pointer (some ⟨Rb, 0, none⟩)] 48) := World.alloc_heap_new _ _
  clear hRb hbb hrl8 hb78 hp8 hgo8 HREF2 HS7 HZ7 HB7
  go_upto_region 5 with (fail)
  generalize w8.alloc (.cells #[.pointer (some ⟨Lb, 0, none⟩), .pointer (some ⟨Rb, 0, none⟩)] 48) = W9 at *
  obtain ⟨Bx, hBx⟩ : ∃ Bx, w8.heap.size = Bx := ⟨_, rfl⟩
  have HSA : Hid (∃ T, Sa w T W9 R0 g1 NA c1 g2 NB c2 u0 u1 La Ra Lb Rb A Bx da db [] [] ba bb db ∧ BRow W9 g1 0 da) := by
    obtain ⟨T8, hp8, hgo8⟩ := HP8.out
    have kA := HB6.out.2
    rw [HA.out] at kA
    have hb3 : Below w.heap.size w w3 := by rw [HR0.out]; exact HB3.out
    have hrm3 := HRM3.out.1
    have hb69 : Below W6.heap.size W6 W9 := by
      have h1 : Below W6.heap.size W6 w8 := ⟨hgo8.os, hgo8.tape, hgo8.output, hgo8.size, fun b hb => hgo8.block b hb (fun z => z)⟩
      exact keepB hb89 h1
    refine ⟨T8, sa_first hb3 (by rw [HR0.out]; exact hrm3) HRM3.out.2.2.1 HRM3.out.2.2.2 HQ5.out.1 HQ5.out.2 HB6.out.1 HA.out.symm (Array.getElem?_eq_some_iff.1 kA).1 ⟨by rw [cell_of_obj kA]; rfl, by rw [cell_of_obj kA]; rfl⟩ hp8 hgo8 hb89 hBx.symm ⟨by rw [← hBx, cell_of_obj gB]; rfl, by rw [← hBx, cell_of_obj gB]; rfl⟩, (HRM3.out.2.1.below HBL36.out HRM3.out.2.1.1).below hb69 (Nat.lt_of_lt_of_le HRM3.out.2.1.1 HBL36.out.size)⟩
  rw [hBx]
  clear hb89 gB hBx HP8 HQ5 HB6 HA HBL36 HZ6 HRM3 HB5 HB3
  obtain ⟨T, hsa, hrow⟩ := HSA.out
  have HS9 : Hid (Sa w T W9 R0 g1 NA c1 g2 NB c2 u0 u1 La Ra Lb Rb A Bx da db [] [] ba bb db ∧ BRow W9 g1 0 da) := ⟨hsa, hrow⟩
  obtain ⟨xa0, xa1⟩ := hsa.xA
  obtain ⟨xb0, xb1⟩ := hsa.xB
  clear hsa hrow HSA
  have HHOLD : Hid (Calls Try.prog 10 #[.pointer (some ⟨R0, 0, none⟩)] W9 fun e w' => e = .returned (.bool true) ∧ w' = W9) := hold_any R0 w.heap.size u0 u1 _ W9 HS9.out.1.rm (by simp)
  go_wp2_with fail
  refine HHOLD.out.mono ?_
  rintro e w10 ⟨rfl, hw10⟩
  have hw11 := hw10.symm
  clear hw10 HHOLD
  subst hw11
  clear xa0 xa1 xb0 xb1
  go_wp2
  go_loopw [12] (fun i wr => ∃ k : Nat, k ≤ NA ∧ i = .int .i64 (k : Int) ∧ Hid (Sa w T wr R0 g1 NA c1 g2 NB c2 u0 u1 La Ra Lb Rb A Bx da db [] [] ba bb db ∧ BRow wr g1 k (da.drop k))) (fun i _ => NA - (intOf i).toNat)
  case atStart => exact ⟨0, Nat.zero_le _, rfl, HS9.out⟩
  case round =>
    clear HS9
    obtain ⟨k, hk, rfl, HSK⟩ := hrel
    rename World => wa
    by_cases hlt : k < NA
    · have hkl : k < da.length := by rw [HN.out.2.1]; exact hlt
      obtain ⟨b1, o1, rfl, hr1⟩ := (HD.out.1.below HSK.out.1.low).1 (by rintro rfl; simp at hkl)
      have x0 : wa.cell? ⟨g1, k, none⟩ = some (.int .u8 ((da.getD k 0 : Nat) : Int)) := by
        have := HSK.out.2.2 0 (da.getD k 0) (by simp [hkl])
        rw [Nat.add_zero] at this
        exact this
      have x1 : wa.cell? ⟨b1, o1 + k, none⟩ = some (.int .u8 ((da.getD k 0 : Nat) : Int)) := hr1.2 k _ (by simp [hkl])
      have hby : da.getD k 0 < 256 := HD.out.1.2 _ (by simp [hkl])
      have hfz := (HSK.out.1.rm.lent _ (List.mem_cons_self ..)).2.2.2.2.2.1
      have HBB : Hid (b1 ≠ g1) := by
        have h1 := (HSK.out.1.rm.lent _ (List.mem_cons_self ..)).1
        have h2 : b1 < w.heap.size := by
          obtain ⟨b2, o2, e2, hr2⟩ := HD.out.1.1 (by rintro rfl; simp at hkl)
          simp only [Option.some.injEq, Addr.mk.injEq] at e2
          rw [e2.1]; exact hr2.1
        show b1 ≠ g1
        simp only at h1
        omega
      have q1 : (k : Int) < (NA : Int) := by omega
      clear hkl hr1
      generalize da.getD k 0 = y at *
      have q2 : (y : Int) < 256 := by omega
      go_wp2
      go_quiet (fail)
      have HSK2 : Hid (Sa w T (wa.drewN nq) R0 g1 NA c1 g2 NB c2 u0 u1 La Ra Lb Rb A Bx da db [] [] ba bb db ∧ BRow (wa.drewN nq) g1 k (da.drop k)) := ⟨HSK.out.1.below (below_drewN (Below.refl _ _) _), HSK.out.2.below (below_drewN (Below.refl _ _) _) HSK.out.2.1⟩
      have x2 : (wa.drewN nq).cell? ⟨g1, k, none⟩ = some (.int .u8 (y : Int)) := x0
      have hf2 := (HSK2.out.1.rm.lent _ (List.mem_cons_self ..)).2.2.2.2.2.1
      dsimp only at hf2
      clear x0 x1 hfz HSK
      generalize wa.drewN nq = wb at *
      go_wp2
      go_roundw
      case rel => exact ⟨k + 1, by omega, by go_num, sa_row HSK2.out.1 HSK2.out.2 hlt _⟩
      case measure => simp [intOf]; omega
    · obtain rfl : k = NA := by omega
      have HSA : Hid (Sa w T wa R0 g1 k c1 g2 NB c2 u0 u1 La Ra Lb Rb A Bx da db [] [] ba bb db) := HSK.out.1
      clear HSK
      have HSC0 : Hid (Sc w ⟨R0, g1, k, c1, g2, NB, c2, u0, u1, La, Ra, Lb, Rb, A, Bx, da, db, db⟩ T wa [] [] ba bb (.slice none 0 0) [] 0) := ⟨HSA.out, OwnK.nil _ _, by simp, by simp, by simp, by simp⟩
      clear HSA
      go_wp2
      go_loopw [13, 14] (fun kv i wr => ∃ (q : Nat) (T : Nat → Nat) (na nb : List Nd) (ba bb : List Nat) (ka : Option Addr) (kc : Nat) (ks : List Lt), q ≤ NS ∧ i = .int .i64 (q : Int) ∧ kv = .slice ka ks.length kc ∧ Hid (Sc w ⟨R0, g1, k, c1, g2, NB, c2, u0, u1, La, Ra, Lb, Rb, A, Bx, da, db, db⟩ T wr na nb ba bb (.slice ka ks.length kc) ks q)) (fun _ i _ => NS - (intOf i).toNat)
      case atStart => exact ⟨0, T, [], [], ba, bb, none, 0, [], Nat.zero_le _, rfl, rfl, HSC0⟩
      case round =>
        clear HSC0
        obtain ⟨q, T2, na, nb, ba2, bb2, ka, kc, ks, hq, rfl, rfl, HSC⟩ := hrel
        rename World => wr2
        by_cases hlq : q < NS
        · have hql : q < sc.length := by rw [HN.out.1]; exact hlq
          obtain ⟨b3, o3, rfl, _, y0, y1, y2, y3, y4, y5, y6⟩ := (HS.out.below HSC.out.sa.low).at_ hql
          have HBN : Hid (-9223372036854775808 ≤ (sc.getD q oz).2.2.2 ∧ (sc.getD q oz).2.2.2 ≤ 9223372036854775807) := HBD.out _ (by simp [hql])
          have z1 : (q : Int) < (NS : Int) := by omega
          have HQS : Hid (q < 1954687338268) := by show q < 1954687338268; omega
          clear hql
          generalize sc.getD q oz = o at *
          obtain ⟨kind, sec, ⟨xk, xs, xd, xv⟩, nn⟩ := o
          dsimp only at y0 y1 y2 y3 y4 y5 y6 HBN
          obtain ⟨xa0, xa1⟩ := HSC.out.sa.xA
          obtain ⟨xb0, xb1⟩ := HSC.out.sa.xB
          dsimp only at xa0 xa1 xb0 xb1
          generalize hKL : ks.length = KL at *
          have HKL : Hid (ks.length = KL) := hKL
          clear hKL
          go_upto_region 17 with (fail)
          have hA1 : A < wr2.heap.size := World.block_lt_of_cell? wr2 _ xa0
          have hA2 : ¬ A = wr2.heap.size := by omega
          have hA3 : ¬ A = wr2.heap.size + 1 := by omega
          have hb1 : b3 < wr2.heap.size := World.block_lt_of_cell? wr2 _ y0
          have hb2 : ¬ b3 = wr2.heap.size := by omega
          have hb3 : ¬ b3 = wr2.heap.size + 1 := by omega
          clear xb0 xb1
          go_cut [15, 16] (fun vp vo w' => ∃ P O : Nat, vp = .pointer (some ⟨P, 0, none⟩) ∧ vo = .pointer (some ⟨O, 0, none⟩) ∧ Hid (Two wr2 w' P O La Ra kind sec xk xs xd xv nn))
          case first =>
            go_region
            · go_wp2
              go_meet
              case rel => exact ⟨_, _, rfl, rfl, two_po⟩
            · go_wp2
              go_meet
              case rel => exact ⟨_, _, rfl, rfl, two_op⟩
          case rest =>
            obtain ⟨P, O, rfl, rfl, HTW⟩ := hcut
            clear y0 y1 y2 y3 y4 y5 y6 xa0 xa1 hA1 hA2 hA3 hb1 hb2 hb3
            rename World => w3
            have HSC3 : Hid (Sc w ⟨R0, g1, k, c1, g2, NB, c2, u0, u1, La, Ra, Lb, Rb, A, Bx, da, db, db⟩ T2 w3 na nb ba2 bb2 (.slice ka ks.length kc) ks q) := (by rw [HKL.out]; exact HSC.out : Sc w ⟨R0, g1, k, c1, g2, NB, c2, u0, u1, La, Ra, Lb, Rb, A, Bx, da, db, db⟩ T2 wr2 na nb ba2 bb2 (.slice ka ks.length kc) ks q).below HTW.out.bel
            have HSC4z : Hid (∀ b, wr2.heap.size ≤ b → T2 b = 0) := HSC.out.sa.zhi
            have HPO : Hid (wr2.heap.size ≤ P ∧ wr2.heap.size ≤ O) := ⟨HTW.out.pge, HTW.out.oge⟩
            have HQB : Hid (q < 1954687338268) := by have := HQS.out; show q < 1954687338268; omega
            cases sec with
            | false =>
              have HSC4 := HSC3
              have HH4 : Hid (Hold2 w3 P O La Ra kind false xk xs xd xv nn) := HTW.out.hold
              obtain ⟨hp0, hp1, ho0, ho1, ho2, ho3, ho4, ho5, ho6⟩ := HH4.out
              clear HSC HSC3 HTW
              rename World => W4
              go_upto_region 20 with (fail)
              have HPL : Hid (Calls Try.prog 11 #[.agg #[.pointer (some ⟨La, 0, none⟩), .pointer (some ⟨Ra, 0, none⟩)], .agg #[.int .i64 kind, .bool false, .string xk, .int .u64 xs, .bool xd, .string xv, .int .i64 nn]] W4 fun e w' => e = .returned (.bool true) ∧ PlayAns 1 5 T2 W4 La Ra da na w') := plays_any 1 5 (by omega) (by omega) (by omega) T2 W4 La Ra da na ba2 HSC4.out.sa.pa HSC4.out.sa.zhi (by have := HSC4.out.la; have := HQB.out; omega) (by have := HD.out.2.2; omega) kind false (xk, xs, xd, xv) nn
              go_wp2_with fail
              refine HPL.out.mono ?_
              rintro e w5 ⟨rfl, hpa⟩
              obtain ⟨T5, na5, ba5, hsc5, hz5, ht5⟩ := HSC4.out.playA hpa
              have HSC5 : Hid (Sc w ⟨R0, g1, k, c1, g2, NB, c2, u0, u1, La, Ra, Lb, Rb, A, Bx, da, db, db⟩ T5 w5 na5 nb ba5 bb2 (.slice ka ks.length kc) ks (q + 1)) := hsc5
              have HH5 : Hid (Hold2 w5 P O La Ra kind false xk xs xd xv nn) := HH4.out.keep (hz5 P (HSC4z.out P HPO.out.1) (World.block_lt_of_cell? W4 _ HH4.out.p0)) (hz5 O (HSC4z.out O HPO.out.2) (World.block_lt_of_cell? W4 _ HH4.out.o0))
              have HPT5 : Hid (T5 P = 0 ∧ T5 O = 0) := ⟨ht5 P (HSC4z.out P HPO.out.1) (World.block_lt_of_cell? W4 _ HH4.out.p0), ht5 O (HSC4z.out O HPO.out.2) (World.block_lt_of_cell? W4 _ HH4.out.o0)⟩
              clear hpa hsc5 hz5 ht5 HPL hp0 hp1 ho0 ho1 ho2 ho3 ho4 ho5 ho6
              obtain ⟨hp0, hp1, ho0, ho1, ho2, ho3, ho4, ho5, ho6⟩ := HH5.out
              by_cases hk6 : kind = 6
              · subst hk6
                have HLN : Hid (ks.length + 1 ≤ 1954687338268 ∧ ks.length + 1 ≤ q + 1) := by have := HSC4.out.lk; have := HQB.out; exact ⟨by omega, by omega⟩
                have HKK : Hid (.slice ka KL kc = Value.slice ka ks.length kc) := by show _ = _; rw [HKL.out]
                have hS5 : w5.drew.cell? ⟨P, 0, none⟩ = some (.pointer (some ⟨La, 0, none⟩)) ∧ w5.drew.cell? ⟨P, 1, none⟩ = some (.pointer (some ⟨Ra, 0, none⟩)) ∧ w5.drew.cell? ⟨O, 2, none⟩ = some (.string xk) ∧ w5.drew.cell? ⟨O, 3, none⟩ = some (.int .u64 xs) ∧ w5.drew.cell? ⟨O, 4, none⟩ = some (.bool xd) ∧ w5.drew.cell? ⟨O, 5, none⟩ = some (.string xv) := ⟨hp0, hp1, ho2, ho3, ho4, ho5⟩
                go_wp2
                go_region_held3 (fun W => W.cell? ⟨P, 0, none⟩ = some (.pointer (some ⟨La, 0, none⟩)) ∧ W.cell? ⟨P, 1, none⟩ = some (.pointer (some ⟨Ra, 0, none⟩)) ∧ W.cell? ⟨O, 2, none⟩ = some (.string xk) ∧ W.cell? ⟨O, 3, none⟩ = some (.int .u64 xs) ∧ W.cell? ⟨O, 4, none⟩ = some (.bool xd) ∧ W.cell? ⟨O, 5, none⟩ = some (.string xv)) (first | assumption | exact hS5 | exact s6_alloc (by assumption) _)
                  (first
                  | (go_at_call 12; go_loud (refine (from_any La xk xs w5.drew).mono ?_; rintro e w6 ⟨rfl, hw6⟩; have hb6 : Below w5.heap.size w5 w6 := (by rw [hw6]; exact ((((Below.refl _ _).drew).alloc (Nat.le_refl _) _).alloc (by show w5.heap.size ≤ _; simp) _).alloc (by show w5.heap.size ≤ _; simp; omega) _); have HB6 := HID5 hb6; have HFR : Hid (LtOk T5 w6 La Ra Lb Rb ⟨w5.heap.size, w5.heap.size + 1, w5.heap.size + 2, La, Ra, (xk, xs, xd, xv)⟩) := lt_new hw6 HSC5.out.sa.zhi (.inl ⟨rfl, rfl⟩); have hS6 := s6_of (HH5.out.below hb6); clear hw6 hb6))
                  | ((refine step_appK _ (by rfl) (.tmp 94) (.tmp 108) 50 (by rfl) iK undK hiK hzK0 hzK1 hzK2 T5 (.slice ka KL kc) ks (by simp [Act.eval, Act.put]) ((by rw [HKK.out]; exact (HSC5.out.kp.goes (Goes.below (t := fun _ => False) HB6.out) (fun z => z)).goes (Goes.below (t := fun _ => False) ((Below.refl _ _).alloc (Nat.le_refl _) _)) (fun z => z))) w6.heap.size ⟨w5.heap.size, w5.heap.size + 1, w5.heap.size + 2, La, Ra, (xk, xs, xd, xv)⟩ (by simp [Act.eval, Act.put]) (late_news w6 _) HLN.out.1 ?_; intro a7 c7 T7 w7 hown7 hgo7; have HSC7 : Hid (Sc w ⟨R0, g1, k, c1, g2, NB, c2, u0, u1, La, Ra, Lb, Rb, A, Bx, da, db, db⟩ T7 w7 na5 nb ba5 bb2 (.slice a7 (ks.length + 1) c7) (ks ++ [⟨w5.heap.size, w5.heap.size + 1, w5.heap.size + 2, La, Ra, (xk, xs, xd, xv)⟩]) (q + 1)) := ((HSC5.out.below HB6.out).below ((Below.refl _ _).alloc (Nat.le_refl _) _)).keep hgo7 hown7 (HFR.out.goes (Goes.below (t := fun _ => False) ((Below.refl _ _).alloc (Nat.le_refl _) _)) (fun z => z)) HLN.out.2; have hh7 : Hold2 w7 P O La Ra 6 false xk xs xd xv nn := hold_goes ((HH5.out.below HB6.out).below ((Below.refl _ _).alloc (Nat.le_refl _) _)) hgo7 (HPT5.out.1) (HPT5.out.2); have HH7 := HID5 hh7; have hS7 := s6_of hh7; clear hown7 hgo7 hh7)))
                all_goals (
                  have HSC8 : Hid (Sc w ⟨R0, g1, k, c1, g2, NB, c2, u0, u1, La, Ra, Lb, Rb, A, Bx, da, db, db⟩ T7 w7 na5 nb ba5 bb2 (.slice a7 (ks ++ [(⟨w5.heap.size, w5.heap.size + 1, w5.heap.size + 2, La, Ra, (xk, xs, xd, xv)⟩ : Lt)]).length c7) (ks ++ [(⟨w5.heap.size, w5.heap.size + 1, w5.heap.size + 2, La, Ra, (xk, xs, xd, xv)⟩ : Lt)]) (q + 1)) := (by rw [List.length_append]; exact HSC7.out)
                  obtain ⟨_, _, jo0, _, _, _, _, _, _⟩ := HH7.out
                  clear HSC7 HH7 hp0 hp1 ho0 ho1 ho2 ho3 ho4 ho5 ho6 hS5
                  go_wp2
                  go_roundw
                  case rel => exact ⟨q + 1, T7, na5, nb, ba5, bb2, a7, c7, ks ++ [(⟨w5.heap.size, w5.heap.size + 1, w5.heap.size + 2, La, Ra, (xk, xs, xd, xv)⟩ : Lt)], by omega, by go_num, by rw [List.length_append]; rfl, HSC8⟩
                  case measure => simp [intOf]; omega)
              · have hk6b : (kind == 6) = false := by simpa using hk6
                clear hk6
                have HSC9 : Hid (Sc w ⟨R0, g1, k, c1, g2, NB, c2, u0, u1, La, Ra, Lb, Rb, A, Bx, da, db, db⟩ T5 w5 na5 nb ba5 bb2 (.slice ka KL kc) ks (q + 1)) := (by rw [← HKL.out]; exact HSC5.out)
                by_cases hk7 : kind = 7
                · subst hk7
                  by_cases hKL0 : 0 < KL
                  · have zK : (0 : Int) < (KL : Int) := by omega
                    have HQK : Hid (KL ≤ 1954687338268 ∧ ks.length = KL) := ⟨by have h1 := HSC4.out.lk; have h2 := HQB.out; have h3 := HKL.out; omega, HKL.out⟩
                    have HPC : Hid (Calls Try.prog 13 #[.int .i64 nn, .int .i64 (KL : Int)] w5 fun e w' => ∃ p : Nat, e = .returned (.int .i64 (p : Int)) ∧ p < KL ∧ w' = w5) := place5 nn KL w5 HBN.out.1 HBN.out.2 hKL0 HQK.out.1
                    clear hKL0
                    go_wp2_with (go_at_call 13; go_loud (refine Calls.mono HPC.out ?_; rintro e w6 ⟨p, rfl, hp, hw6⟩; have hw7 := hw6.symm; clear hw6; subst hw7; obtain ⟨gk, kk, hgk, hkm, k0, k1, k2, k3, k4, k5, k6⟩ := HSC9.out.late (i := p) (by rw [HQK.out.2]; exact hp); subst hgk; have HNW : Hid (Calls Try.prog 14 #[.agg #[kk.fv, .pointer (some ⟨kk.L, 0, none⟩), .pointer (some ⟨kk.R, 0, none⟩), .string kk.e.1, .int .u64 kk.e.2.1, .bool kk.e.2.2.1, .string kk.e.2.2.2]] w5 fun e w' => e = .returned (.bool true) ∧ Below w5.heap.size w5 w') := HSC9.out.now (by have := HQB.out; omega) hkm (Below.refl _ _); have zp : (p : Int) < (KL : Int) := (by omega); clear hkm hp HPC))
                    refine Calls.mono HNW.out ?_
                    rintro e w8 ⟨rfl, hb8⟩
                    have HSC8 : Hid (Sc w ⟨R0, g1, k, c1, g2, NB, c2, u0, u1, La, Ra, Lb, Rb, A, Bx, da, db, db⟩ T5 w8 na5 nb ba5 bb2 (.slice (some ⟨gk, 0, none⟩) KL kc) ks (q + 1)) := HSC9.out.below hb8
                    clear hb8 HNW k0 k1 k2 k3 k4 k5 k6 hp0 hp1 ho0 ho1 ho2 ho3 ho4 ho5 ho6
                    go_wp2
                    go_roundw
                    case rel => exact ⟨q + 1, T5, na5, nb, ba5, bb2, some ⟨gk, 0, none⟩, kc, ks, by omega, by go_num, by rw [HQK.out.2], (by rw [HQK.out.2]; exact HSC8.out)⟩
                    case measure => simp [intOf]; omega
                  · obtain rfl : KL = 0 := by omega
                    have e00 : ((0 : Nat) : Int) = 0 := rfl
                    clear hKL0
                    go_wp2
                    go_roundw
                    case rel => exact ⟨q + 1, T5, na5, nb, ba5, bb2, ka, kc, ks, by omega, by go_num, by rw [HKL.out], (by rw [HKL.out]; exact HSC9.out)⟩
                    case measure => simp [intOf]; omega
                · have hk7b : (kind == 7) = false := by simpa using hk7
                  clear hk7
                  go_wp2
                  go_roundw
                  case rel => exact ⟨q + 1, T5, na5, nb, ba5, bb2, ka, kc, ks, by omega, by go_num, by rw [HKL.out], (by rw [HKL.out]; exact HSC9.out)⟩
                  case measure => simp [intOf]; omega
            | true =>
              obtain ⟨hp0, hp1, ho0, ho1, ho2, ho3, ho4, ho5, ho6⟩ := HTW.out.hold
              obtain ⟨xb0, xb1⟩ := HSC3.out.sa.xB
              dsimp only at xb0 xb1
              have hfz : ∀ j, w3.frozen? ⟨P, j, none⟩ = false := fun j => froz_of_obj HTW.out.pob
              obtain ⟨hbS, hhS⟩ := HTW.out.second (L2 := Lb) (R2 := Rb)
              have HSC4 : Hid (Sc w ⟨R0, g1, k, c1, g2, NB, c2, u0, u1, La, Ra, Lb, Rb, A, Bx, da, db, db⟩ T2 ((w3.setCell ⟨P, 0, none⟩ (.pointer (some ⟨Lb, 0, none⟩))).setCell ⟨P, 1, none⟩ (.pointer (some ⟨Rb, 0, none⟩))) na nb ba2 bb2 (.slice ka ks.length kc) ks q) := (by rw [HKL.out]; exact HSC.out : Sc w ⟨R0, g1, k, c1, g2, NB, c2, u0, u1, La, Ra, Lb, Rb, A, Bx, da, db, db⟩ T2 wr2 na nb ba2 bb2 (.slice ka ks.length kc) ks q).below hbS
              have HH4 : Hid (Hold2 ((w3.setCell ⟨P, 0, none⟩ (.pointer (some ⟨Lb, 0, none⟩))).setCell ⟨P, 1, none⟩ (.pointer (some ⟨Rb, 0, none⟩))) P O Lb Rb kind true xk xs xd xv nn) := hhS
              clear hbS hhS HSC HSC3 HTW
              go_upto_region 20 with (fail)
              generalize (w3.setCell ⟨P, 0, none⟩ (.pointer (some ⟨Lb, 0, none⟩))).setCell ⟨P, 1, none⟩ (.pointer (some ⟨Rb, 0, none⟩)) = W4 at *
              clear hp0 hp1 ho0 ho1 ho2 ho3 ho4 ho5 ho6 xb0 xb1 hfz
              obtain ⟨hp0, hp1, ho0, ho1, ho2, ho3, ho4, ho5, ho6⟩ := HH4.out
              have HPL : Hid (Calls Try.prog 11 #[.agg #[.pointer (some ⟨Lb, 0, none⟩), .pointer (some ⟨Rb, 0, none⟩)], .agg #[.int .i64 kind, .bool true, .string xk, .int .u64 xs, .bool xd, .string xv, .int .i64 nn]] W4 fun e w' => e = .returned (.bool true) ∧ PlayAns 3 6 T2 W4 Lb Rb db nb w') := plays_any 3 6 (by omega) (by omega) (by omega) T2 W4 Lb Rb db nb bb2 HSC4.out.sa.pb HSC4.out.sa.zhi (by have := HSC4.out.lb; have := HQB.out; omega) (by have := HO.out.2.2; omega) kind true (xk, xs, xd, xv) nn
              go_wp2_with fail
              refine HPL.out.mono ?_
              rintro e w5 ⟨rfl, hpa⟩
              obtain ⟨T5, nb5, bb5, hsc5, hz5, ht5⟩ := HSC4.out.playB hpa
              have HSC5 : Hid (Sc w ⟨R0, g1, k, c1, g2, NB, c2, u0, u1, La, Ra, Lb, Rb, A, Bx, da, db, db⟩ T5 w5 na nb5 ba2 bb5 (.slice ka ks.length kc) ks (q + 1)) := hsc5
              have HH5 : Hid (Hold2 w5 P O Lb Rb kind true xk xs xd xv nn) := HH4.out.keep (hz5 P (HSC4z.out P HPO.out.1) (World.block_lt_of_cell? W4 _ HH4.out.p0)) (hz5 O (HSC4z.out O HPO.out.2) (World.block_lt_of_cell? W4 _ HH4.out.o0))
              have HPT5 : Hid (T5 P = 0 ∧ T5 O = 0) := ⟨ht5 P (HSC4z.out P HPO.out.1) (World.block_lt_of_cell? W4 _ HH4.out.p0), ht5 O (HSC4z.out O HPO.out.2) (World.block_lt_of_cell? W4 _ HH4.out.o0)⟩
              clear hpa hsc5 hz5 ht5 HPL hp0 hp1 ho0 ho1 ho2 ho3 ho4 ho5 ho6
              obtain ⟨hp0, hp1, ho0, ho1, ho2, ho3, ho4, ho5, ho6⟩ := HH5.out
              by_cases hk6 : kind = 6
              · subst hk6
                have HLN : Hid (ks.length + 1 ≤ 1954687338268 ∧ ks.length + 1 ≤ q + 1) := by have := HSC4.out.lk; have := HQB.out; exact ⟨by omega, by omega⟩
                have HKK : Hid (.slice ka KL kc = Value.slice ka ks.length kc) := by show _ = _; rw [HKL.out]
                have hS5 : w5.drew.cell? ⟨P, 0, none⟩ = some (.pointer (some ⟨Lb, 0, none⟩)) ∧ w5.drew.cell? ⟨P, 1, none⟩ = some (.pointer (some ⟨Rb, 0, none⟩)) ∧ w5.drew.cell? ⟨O, 2, none⟩ = some (.string xk) ∧ w5.drew.cell? ⟨O, 3, none⟩ = some (.int .u64 xs) ∧ w5.drew.cell? ⟨O, 4, none⟩ = some (.bool xd) ∧ w5.drew.cell? ⟨O, 5, none⟩ = some (.string xv) := ⟨hp0, hp1, ho2, ho3, ho4, ho5⟩
                go_wp2
                go_region_held3 (fun W => W.cell? ⟨P, 0, none⟩ = some (.pointer (some ⟨Lb, 0, none⟩)) ∧ W.cell? ⟨P, 1, none⟩ = some (.pointer (some ⟨Rb, 0, none⟩)) ∧ W.cell? ⟨O, 2, none⟩ = some (.string xk) ∧ W.cell? ⟨O, 3, none⟩ = some (.int .u64 xs) ∧ W.cell? ⟨O, 4, none⟩ = some (.bool xd) ∧ W.cell? ⟨O, 5, none⟩ = some (.string xv)) (first | assumption | exact hS5 | exact s6_alloc (by assumption) _)
                  (first
                  | (go_at_call 12; go_loud (refine (from_any Lb xk xs w5.drew).mono ?_; rintro e w6 ⟨rfl, hw6⟩; have hb6 : Below w5.heap.size w5 w6 := (by rw [hw6]; exact ((((Below.refl _ _).drew).alloc (Nat.le_refl _) _).alloc (by show w5.heap.size ≤ _; simp) _).alloc (by show w5.heap.size ≤ _; simp; omega) _); have HB6 := HID5 hb6; have HFR : Hid (LtOk T5 w6 La Ra Lb Rb ⟨w5.heap.size, w5.heap.size + 1, w5.heap.size + 2, Lb, Rb, (xk, xs, xd, xv)⟩) := lt_new hw6 HSC5.out.sa.zhi (.inr ⟨rfl, rfl⟩); have hS6 := s6_of (HH5.out.below hb6); clear hw6 hb6))
                  | ((refine step_appK _ (by rfl) (.tmp 94) (.tmp 108) 50 (by rfl) iK undK hiK hzK0 hzK1 hzK2 T5 (.slice ka KL kc) ks (by simp [Act.eval, Act.put]) ((by rw [HKK.out]; exact (HSC5.out.kp.goes (Goes.below (t := fun _ => False) HB6.out) (fun z => z)).goes (Goes.below (t := fun _ => False) ((Below.refl _ _).alloc (Nat.le_refl _) _)) (fun z => z))) w6.heap.size ⟨w5.heap.size, w5.heap.size + 1, w5.heap.size + 2, Lb, Rb, (xk, xs, xd, xv)⟩ (by simp [Act.eval, Act.put]) (late_news w6 _) HLN.out.1 ?_; intro a7 c7 T7 w7 hown7 hgo7; have HSC7 : Hid (Sc w ⟨R0, g1, k, c1, g2, NB, c2, u0, u1, La, Ra, Lb, Rb, A, Bx, da, db, db⟩ T7 w7 na nb5 ba2 bb5 (.slice a7 (ks.length + 1) c7) (ks ++ [⟨w5.heap.size, w5.heap.size + 1, w5.heap.size + 2, Lb, Rb, (xk, xs, xd, xv)⟩]) (q + 1)) := ((HSC5.out.below HB6.out).below ((Below.refl _ _).alloc (Nat.le_refl _) _)).keep hgo7 hown7 (HFR.out.goes (Goes.below (t := fun _ => False) ((Below.refl _ _).alloc (Nat.le_refl _) _)) (fun z => z)) HLN.out.2; have hh7 : Hold2 w7 P O Lb Rb 6 true xk xs xd xv nn := hold_goes ((HH5.out.below HB6.out).below ((Below.refl _ _).alloc (Nat.le_refl _) _)) hgo7 (HPT5.out.1) (HPT5.out.2); have HH7 := HID5 hh7; have hS7 := s6_of hh7; clear hown7 hgo7 hh7)))
                all_goals (
                  have HSC8 : Hid (Sc w ⟨R0, g1, k, c1, g2, NB, c2, u0, u1, La, Ra, Lb, Rb, A, Bx, da, db, db⟩ T7 w7 na nb5 ba2 bb5 (.slice a7 (ks ++ [(⟨w5.heap.size, w5.heap.size + 1, w5.heap.size + 2, Lb, Rb, (xk, xs, xd, xv)⟩ : Lt)]).length c7) (ks ++ [(⟨w5.heap.size, w5.heap.size + 1, w5.heap.size + 2, Lb, Rb, (xk, xs, xd, xv)⟩ : Lt)]) (q + 1)) := (by rw [List.length_append]; exact HSC7.out)
                  obtain ⟨_, _, jo0, _, _, _, _, _, _⟩ := HH7.out
                  clear HSC7 HH7 hp0 hp1 ho0 ho1 ho2 ho3 ho4 ho5 ho6 hS5
                  go_wp2
                  go_roundw
                  case rel => exact ⟨q + 1, T7, na, nb5, ba2, bb5, a7, c7, ks ++ [(⟨w5.heap.size, w5.heap.size + 1, w5.heap.size + 2, Lb, Rb, (xk, xs, xd, xv)⟩ : Lt)], by omega, by go_num, by rw [List.length_append]; rfl, HSC8⟩
                  case measure => simp [intOf]; omega)
              · have hk6b : (kind == 6) = false := by simpa using hk6
                clear hk6
                have HSC9 : Hid (Sc w ⟨R0, g1, k, c1, g2, NB, c2, u0, u1, La, Ra, Lb, Rb, A, Bx, da, db, db⟩ T5 w5 na nb5 ba2 bb5 (.slice ka KL kc) ks (q + 1)) := (by rw [← HKL.out]; exact HSC5.out)
                by_cases hk7 : kind = 7
                · subst hk7
                  by_cases hKL0 : 0 < KL
                  · have zK : (0 : Int) < (KL : Int) := by omega
                    have HQK : Hid (KL ≤ 1954687338268 ∧ ks.length = KL) := ⟨by have h1 := HSC4.out.lk; have h2 := HQB.out; have h3 := HKL.out; omega, HKL.out⟩
                    have HPC : Hid (Calls Try.prog 13 #[.int .i64 nn, .int .i64 (KL : Int)] w5 fun e w' => ∃ p : Nat, e = .returned (.int .i64 (p : Int)) ∧ p < KL ∧ w' = w5) := place5 nn KL w5 HBN.out.1 HBN.out.2 hKL0 HQK.out.1
                    clear hKL0
                    go_wp2_with (go_at_call 13; go_loud (refine Calls.mono HPC.out ?_; rintro e w6 ⟨p, rfl, hp, hw6⟩; have hw7 := hw6.symm; clear hw6; subst hw7; obtain ⟨gk, kk, hgk, hkm, k0, k1, k2, k3, k4, k5, k6⟩ := HSC9.out.late (i := p) (by rw [HQK.out.2]; exact hp); subst hgk; have HNW : Hid (Calls Try.prog 14 #[.agg #[kk.fv, .pointer (some ⟨kk.L, 0, none⟩), .pointer (some ⟨kk.R, 0, none⟩), .string kk.e.1, .int .u64 kk.e.2.1, .bool kk.e.2.2.1, .string kk.e.2.2.2]] w5 fun e w' => e = .returned (.bool true) ∧ Below w5.heap.size w5 w') := HSC9.out.now (by have := HQB.out; omega) hkm (Below.refl _ _); have zp : (p : Int) < (KL : Int) := (by omega); clear hkm hp HPC))
                    refine Calls.mono HNW.out ?_
                    rintro e w8 ⟨rfl, hb8⟩
                    have HSC8 : Hid (Sc w ⟨R0, g1, k, c1, g2, NB, c2, u0, u1, La, Ra, Lb, Rb, A, Bx, da, db, db⟩ T5 w8 na nb5 ba2 bb5 (.slice (some ⟨gk, 0, none⟩) KL kc) ks (q + 1)) := HSC9.out.below hb8
                    clear hb8 HNW k0 k1 k2 k3 k4 k5 k6 hp0 hp1 ho0 ho1 ho2 ho3 ho4 ho5 ho6
                    go_wp2
                    go_roundw
                    case rel => exact ⟨q + 1, T5, na, nb5, ba2, bb5, some ⟨gk, 0, none⟩, kc, ks, by omega, by go_num, by rw [HQK.out.2], (by rw [HQK.out.2]; exact HSC8.out)⟩
                    case measure => simp [intOf]; omega
                  · obtain rfl : KL = 0 := by omega
                    have e00 : ((0 : Nat) : Int) = 0 := rfl
                    clear hKL0
                    go_wp2
                    go_roundw
                    case rel => exact ⟨q + 1, T5, na, nb5, ba2, bb5, ka, kc, ks, by omega, by go_num, by rw [HKL.out], (by rw [HKL.out]; exact HSC9.out)⟩
                    case measure => simp [intOf]; omega
                · have hk7b : (kind == 7) = false := by simpa using hk7
                  clear hk7
                  go_wp2
                  go_roundw
                  case rel => exact ⟨q + 1, T5, na, nb5, ba2, bb5, ka, kc, ks, by omega, by go_num, by rw [HKL.out], (by rw [HKL.out]; exact HSC9.out)⟩
                  case measure => simp [intOf]; omega
        · obtain rfl : q = NS := by omega
          generalize hKL : ks.length = KL at *
          have HKL : Hid (ks.length = KL ∧ KL ≤ 1954687338268) := ⟨hKL, by have := HSC.out.lk; omega⟩
          have zKL : (KL : Int) ≤ 1954687338268 := by have := HKL.out.2; omega
          have HQB : Hid (q ≤ 1954687338268) := by show q ≤ 1954687338268; omega
          clear hKL
          go_wp2
          go_loopw [17] (fun i wr => ∃ j : Nat, j ≤ KL ∧ i = .int .i64 (j : Int) ∧ Hid (Sc w ⟨R0, g1, k, c1, g2, NB, c2, u0, u1, La, Ra, Lb, Rb, A, Bx, da, db, db⟩ T2 wr na nb ba2 bb2 (.slice ka KL kc) ks q)) (fun i _ => KL - (intOf i).toNat)
          case atStart => exact ⟨0, Nat.zero_le _, rfl, HSC⟩
          case round =>
            clear HSC
            obtain ⟨j, hj, rfl, HSC⟩ := hrel
            rename World => wk
            by_cases hlj : j < KL
            · obtain ⟨gk, kk, rfl, hkm, k0, k1, k2, k3, k4, k5, k6⟩ := HSC.out.late (i := j) (by rw [HKL.out.1]; exact hlj)
              have HNW : Hid (Calls Try.prog 14 #[.agg #[kk.fv, .pointer (some ⟨kk.L, 0, none⟩), .pointer (some ⟨kk.R, 0, none⟩), .string kk.e.1, .int .u64 kk.e.2.1, .bool kk.e.2.2.1, .string kk.e.2.2.2]] wk fun e w' => e = .returned (.bool true) ∧ Below wk.heap.size wk w') := HSC.out.now HQB.out hkm (Below.refl _ _)
              have zj : (j : Int) < (KL : Int) := by omega
              clear hkm
              go_wp2_with fail
              refine Calls.mono HNW.out ?_
              rintro e w8 ⟨rfl, hb8⟩
              have HSC8 : Hid (Sc w ⟨R0, g1, k, c1, g2, NB, c2, u0, u1, La, Ra, Lb, Rb, A, Bx, da, db, db⟩ T2 w8 na nb ba2 bb2 (.slice (some ⟨gk, 0, none⟩) KL kc) ks q) := HSC.out.below hb8
              clear hb8 HNW k0 k1 k2 k3 k4 k5 k6
              go_wp2
              go_roundw
              case rel => exact ⟨j + 1, by omega, by go_num, HSC8⟩
              case measure => simp [intOf]; omega
            · go_wp2
              go_loopw [18] (fun i wr => ∃ m : Nat, m ≤ NB ∧ i = .int .i64 (m : Int) ∧ Hid (Sc w ⟨R0, g1, k, c1, g2, NB, c2, u0, u1, La, Ra, Lb, Rb, A, Bx, da, db, db⟩ T2 wr na nb ba2 bb2 (.slice ka KL kc) ks q)) (fun i _ => NB - (intOf i).toNat)
              case atStart => exact ⟨0, Nat.zero_le _, rfl, HSC⟩
              case round =>
                clear HSC
                obtain ⟨m, hm, rfl, HSC⟩ := hrel
                rename World => wm
                by_cases hlm : m < NB
                · have hml : m < db.length := by rw [HN.out.2.2]; exact hlm
                  obtain ⟨b1, o1, rfl, hr1⟩ := (HO.out.1.below HSC.out.sa.low).1 (by rintro rfl; simp at hml)
                  have x0 : wm.cell? ⟨g2, m, none⟩ = some (.int .u8 ((db.getD m 0 : Nat) : Int)) := by
                    have := HSC.out.sa.in2.2 m (db.getD m 0) (by simp [hml])
                    rw [Nat.zero_add] at this
                    exact this
                  have x1 : wm.cell? ⟨b1, o1 + m, none⟩ = some (.int .u8 ((db.getD m 0 : Nat) : Int)) := hr1.2 m _ (by simp [hml])
                  have zm : (m : Int) < (NB : Int) := by omega
                  clear hml hr1
                  generalize db.getD m 0 = y at *
                  go_wp2
                  go_quiet (fail)
                  go_wp2
                  go_roundw
                  case rel => exact ⟨m + 1, by omega, by go_num, HSC.out.below (below_drewN (Below.refl _ _) _)⟩
                  case measure => simp [intOf]; omega
                · obtain ⟨xa0, xa1⟩ := HSC.out.sa.xA
                  dsimp only at xa0 xa1
                  have HH1 : Hid (Calls Try.prog 15 #[.agg #[.pointer (some ⟨La, 0, none⟩), .pointer (some ⟨Ra, 0, none⟩)]] wm fun e w' => e = .returned (.bool true) ∧ Below wm.heap.size wm w') := holds_any 1 5 T2 wm La Ra da na ba2 HSC.out.sa.pa (by have := HSC.out.la; have := HQB.out; omega)
                  go_wp2_with fail
                  refine Calls.mono HH1.out ?_
                  rintro e w8 ⟨rfl, hb8⟩
                  have HSC8 : Hid (Sc w ⟨R0, g1, k, c1, g2, NB, c2, u0, u1, La, Ra, Lb, Rb, A, Bx, da, db, db⟩ T2 w8 na nb ba2 bb2 (.slice ka KL kc) ks q) := HSC.out.below hb8
                  obtain ⟨xb0, xb1⟩ := HSC8.out.sa.xB
                  dsimp only at xb0 xb1
                  have HH2 : Hid (Calls Try.prog 15 #[.agg #[.pointer (some ⟨Lb, 0, none⟩), .pointer (some ⟨Rb, 0, none⟩)]] w8 fun e w' => e = .returned (.bool true) ∧ Below w8.heap.size w8 w') := holds_any 3 6 T2 w8 Lb Rb db nb bb2 HSC8.out.sa.pb (by have := HSC8.out.lb; have := HQB.out; omega)
                  clear hb8 HH1 xa0 xa1 HSC
                  go_wp2_with fail
                  refine Calls.mono HH2.out ?_
                  rintro e w9 ⟨rfl, hb9⟩
                  have HSC9 : Hid (Sc w ⟨R0, g1, k, c1, g2, NB, c2, u0, u1, La, Ra, Lb, Rb, A, Bx, da, db, db⟩ T2 w9 na nb ba2 bb2 (.slice ka KL kc) ks q) := HSC8.out.below hb9
                  have HHO : Hid (Calls Try.prog 10 #[.pointer (some ⟨R0, 0, none⟩)] w9 fun e w' => e = .returned (.bool true) ∧ w' = w9) := hold_any R0 w.heap.size u0 u1 _ w9 HSC9.out.sa.rm (by simp)
                  clear hb9 HH2 xb0 xb1 HSC8
                  go_wp2_with fail
                  refine Calls.mono HHO.out ?_
                  rintro e w10 ⟨rfl, hw10⟩
                  have HFI : Hid (Below w.heap.size w w10) := by rw [hw10]; exact HSC9.out.sa.low
                  clear hw10
                  go_wp2
                  go_ret
                  exact ⟨rfl, HFI.out⟩
end SkipAll
end Go.Proofs.Ytfomnkkpiflokaa
