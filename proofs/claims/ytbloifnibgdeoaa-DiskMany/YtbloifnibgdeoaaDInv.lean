import Derived.Test.YtbloifnibgdeoaaProg
import Derived.Test.YtbloifnibgdeoaaDTop
import Derived.Test.YtbloifnibgdeoaaDMod
import Derived.Test.YtbloifnibgdeoaaBNew
namespace Go.Proofs.Ytbloifnibgdeoaa
namespace Dsk
open Go.RowKit Go.Maps Go.Sort Byt Laws
set_option linter.unusedVariables false

structure Fl where
  data : List Nat
  sure : Nat
structure Chg where
  name : ByteArray
  was : Option Nat
  to : ByteArray
  over : Option Nat
/-- The disk of the document: files by their ids, the directory, its changes. -/
structure Dm where
  rig : Rig
  room : Nat
  fl : List Fl
  now : List (Key × Nat)
  ch : List Chg
  down : Bool
def lenOf (fl : List Fl) (i : Nat) : Nat := (fl[i]?.map fun f => f.data.length).getD 0
def usedOf (fl : List Fl) (l : List (Key × Nat)) : Nat := (l.map fun p => lenOf fl p.2).sum
def Dm.used (m : Dm) : Nat := usedOf m.fl m.now
def pv (fb : Nat → Nat) : Option Nat → Value
  | none => .pointer none
  | some i => .pointer (some ⟨fb i, 0, none⟩)
def chgCells (fb : Nat → Nat) (c : Chg) : List Value := [.string c.name, pv fb c.was, .string c.to, pv fb c.over]
def chgRow (fb : Nat → Nat) (l : List Chg) : List Value := l.flatMap (chgCells fb)
def fcell (a : Option Addr) (c : Nat) (f : Fl) (j : Nat) : Value := if j = 0 then .slice a f.data.length c else .int .i64 f.sure

/-- The bytes of a file as they lie: a row of one's own, or, behind a fall, a list that is full. -/
structure Hb (w : World) (a : Option Addr) (c : Nat) (l : List Nat) : Prop where
  isB : IsB w a l
  le : l.length ≤ c
  cap : a = none → c = 0
  max : c ≤ 9223372036854775807
  lt : ∀ g, (Value.slice a l.length c).ownBlock = some g → g < w.heap.size
  own : ((∃ g, a = some ⟨g, 0, none⟩) ∧ c = l.length) ∨ w.ownsRow 0 5 1 (.slice a l.length c) l.length (cellsB l)
theorem Hb.byte {w : World} {a : Option Addr} {c : Nat} {l : List Nat} (h : Hb w a c l) : ∀ x ∈ l, x < 256 := h.isB.2
theorem Hb.of {w : World} {a : Option Addr} {c : Nat} {l : List Nat} (h : New 5 0 w a c l) : Hb w a c l := ⟨h.isB, h.le, h.cap, h.max, fun g hg => (h.row.lt g hg).2, .inr h.row⟩
theorem Hb.keep {w w' : World} {a : Option Addr} {c : Nat} {l : List Nat} {bs : List Nat} (h : Hb w a c l) (hk : Keep bs w w') (hn : ∀ g, (Value.slice a l.length c).ownBlock = some g → g ∉ bs) : Hb w' a c l :=
  ⟨⟨fun hne => by
      obtain ⟨b, off, e, hr⟩ := h.isB.1 hne
      exact ⟨b, off, e, hr.keep (hk.block b hr.1 (hn b (by rw [e]; rfl))) hk.size⟩, h.isB.2⟩, h.le, h.cap, h.max, fun g hg => Nat.lt_of_lt_of_le (h.lt g hg) hk.size, h.own.imp id fun ho => hk.own ho hn⟩
theorem Hb.below {w w' : World} {a : Option Addr} {c : Nat} {l : List Nat} (h : Hb w a c l) (hb : Below w.heap.size w w') : Hb w' a c l := h.keep (Keep.below (bs := []) hb) (by simp)

/-- File i, at block b. -/
structure FileAt (T : Nat → Nat) (w : World) (b i : Nat) (f : Fl) (a : Option Addr) (c : Nat) : Prop where
  tag : T b = 10 + 2 * i
  fld : Fld 2 w b (fcell a c f)
  own : Hb w a c f.data
  mine : ∀ ad, a = some ad → T ad.block = 11 + 2 * i
  sure : f.sure ≤ f.data.length
  big : f.data.length ≤ 2147483648
theorem FileAt.keep {T : Nat → Nat} {w w' : World} {b i : Nat} {f : Fl} {a : Option Addr} {c : Nat} {bs : List Nat} (h : FileAt T w b i f a c) (hk : Keep bs w w') (h1 : ∀ x ∈ bs, T x ≠ 10 + 2 * i) (h2 : ∀ x ∈ bs, T x ≠ 11 + 2 * i) : FileAt T w' b i f a c :=
  ⟨h.tag, h.fld.keep hk (fun hm => h1 b hm h.tag), h.own.keep hk (fun g hg hm => h2 g hm (by
    cases a with
    | none => cases hg
    | some ad => cases hg; exact h.mine ad rfl)), h.mine, h.sure, h.big⟩
theorem FileAt.tags {T T' : Nat → Nat} {w : World} {b i : Nat} {f : Fl} {a : Option Addr} {c : Nat} (h : FileAt T w b i f a c) (ht : ∀ x, x < w.heap.size → T' x = T x) : FileAt T' w b i f a c :=
  ⟨(ht b h.fld.1).trans h.tag, h.fld, h.own, fun ad e => (ht ad.block (h.own.lt ad.block (by rw [e]; rfl))).trans (h.mine ad e), h.sure, h.big⟩

/-- What lies in memory is the disk m. T: whose a block is (0: not this disk's). -/
structure Pdu (T : Nat → Nat) (w : World) (d mb : Nat) (fb : Nat → Nat) (m : Dm) (cv : Value) (D : DataW (Option Addr)) (u : Nat) : Prop where
  top : IsTop w d ⟨m.rig, m.room, u, .map (some mb), cv, m.down⟩
  td : T d = 1
  tm : T mb = 2
  fresh : ∀ b, w.heap.size ≤ b → T b = 0
  chg : w.ownsRow 0 112 4 cv m.ch.length (chgRow fb m.ch)
  tc : ∀ b, cv.ownBlock = some b → T b = 3
  map : w.ownsMap Try.prog 9 ptrR mb m.now.length D
  dir : DirIs D fb m.now
  file : ∀ i f, m.fl[i]? = some f → ∃ a c, FileAt T w (fb i) i f a c
  ids : ∀ p ∈ m.now, p.2 < m.fl.length
  apart : (m.now.map (·.2)).Nodup
  cids : ∀ c ∈ m.ch, (∀ i, c.was = some i → i < m.fl.length) ∧ (∀ i, c.over = some i → i < m.fl.length)
  room : m.room ≤ 9223372036854775807
  most : m.now.length ≤ 1073741824
  csz : ∀ c ∈ m.ch, c.name.size ≤ maxLen ∧ c.to.size ≤ maxLen
abbrev Pdi (T : Nat → Nat) (w : World) (d mb : Nat) (fb : Nat → Nat) (m : Dm) (cv : Value) (D : DataW (Option Addr)) : Prop := Pdu T w d mb fb m cv D m.used
def Pd (T : Nat → Nat) (w : World) (d mb : Nat) (fb : Nat → Nat) (m : Dm) : Prop := ∃ cv D, Pdi T w d mb fb m cv D

/-- From one moment to a later one: nothing that isn't this disk's has turned. -/
structure Goes (T T' : Nat → Nat) (w w' : World) : Prop where
  os : w'.os = w.os
  tape : w'.tape = w.tape
  output : w'.output = w.output
  size : w.heap.size ≤ w'.heap.size
  block : ∀ b, b < w.heap.size → T b = 0 → w'.heap[b]? = w.heap[b]? ∧ T' b = 0
theorem Goes.refl (T : Nat → Nat) (w : World) : Goes T T w w := ⟨rfl, rfl, rfl, Nat.le_refl _, fun _ _ h => ⟨rfl, h⟩⟩
theorem Goes.trans {T T' T'' : Nat → Nat} {w w' w'' : World} (h : Goes T T' w w') (k : Goes T' T'' w' w'') : Goes T T'' w w'' :=
  ⟨k.os.trans h.os, k.tape.trans h.tape, k.output.trans h.output, Nat.le_trans h.size k.size, fun b hb ht => by
    obtain ⟨h1, h2⟩ := h.block b hb ht
    obtain ⟨k1, k2⟩ := k.block b (Nat.lt_of_lt_of_le hb h.size) h2
    exact ⟨k1.trans h1, k2⟩⟩
theorem Goes.keep {T : Nat → Nat} {w w' : World} {bs : List Nat} (h : Keep bs w w') (hb : ∀ b ∈ bs, b < w.heap.size → T b ≠ 0) : Goes T T w w' :=
  ⟨h.os, h.tape, h.output, h.size, fun b hlt ht => ⟨h.block b hlt (fun hm => hb b hm hlt ht), ht⟩⟩
theorem Goes.below {T : Nat → Nat} {w w' : World} (h : Below w.heap.size w w') : Goes T T w w' := Goes.keep (Keep.below (bs := []) h) (by simp)

theorem Pdi.below {T : Nat → Nat} {w w' : World} {d mb : Nat} {fb : Nat → Nat} {m : Dm} {cv : Value} {D : DataW (Option Addr)} (h : Pdi T w d mb fb m cv D) (hb : Below w.heap.size w w') : Pdi T w' d mb fb m cv D := by
  have hk : Keep [] w w' := Keep.below hb
  refine { h with top := h.top.keep hk (by simp), fresh := fun b hb' => h.fresh b (Nat.le_trans hb.size hb'), chg := hk.own h.chg (by simp), map := ?_, file := fun i f hf => ?_ }
  · obtain ⟨es, clock, h1, h2⟩ := h.map
    exact ⟨es, clock, (hb.block mb h.map.lt).trans h1, h2⟩
  · obtain ⟨a, c, hf⟩ := h.file i f hf
    exact ⟨a, c, hf.keep hk (by simp) (by simp)⟩
/-- What is rigged, and whether it is down, turns; nothing else. -/
theorem Pdi.turn {T : Nat → Nat} {w w' : World} {d mb : Nat} {fb : Nat → Nat} {m : Dm} {cv : Value} {D : DataW (Option Addr)} (h : Pdi T w d mb fb m cv D) (hk : Keep [d] w w') {r : Rig} {dn : Bool} (ht : IsTop w' d ⟨r, m.room, m.used, .map (some mb), cv, dn⟩) :
    Pdi T w' d mb fb { m with rig := r, down := dn } cv D := by
  have hd := h.td
  refine { h with top := ht, fresh := fun b hb' => h.fresh b (Nat.le_trans hk.size hb'), chg := hk.own h.chg ?_, map := ?_, file := fun i f hf => ?_ }
  · intro g hg hm
    have := h.tc g hg
    simp at hm
    rw [hm] at this; omega
  · obtain ⟨es, clock, h1, h2⟩ := h.map
    refine ⟨es, clock, (hk.block mb h.map.lt ?_).trans h1, h2⟩
    intro hm; simp at hm
    have := h.tm; rw [hm] at this; omega
  · obtain ⟨a, c, hf⟩ := h.file i f hf
    exact ⟨a, c, hf.keep hk (by intro x hx; simp at hx; subst hx; omega) (by intro x hx; simp at hx; subst hx; omega)⟩
theorem Pdi.goes {T : Nat → Nat} {w w' : World} {d mb : Nat} {fb : Nat → Nat} {m : Dm} {cv : Value} {D : DataW (Option Addr)} (h : Pdi T w d mb fb m cv D) (hk : Keep [d] w w') : Goes T T w w' :=
  Goes.keep hk (by intro b hb _; simp at hb; subst hb; rw [h.td]; omega)
end Dsk
end Go.Proofs.Ytbloifnibgdeoaa
