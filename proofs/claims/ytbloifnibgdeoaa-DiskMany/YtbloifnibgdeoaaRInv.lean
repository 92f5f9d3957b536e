import Derived.Test.YtbloifnibgdeoaaRFja
namespace Go.Proofs.Ytbloifnibgdeoaa
namespace Dsk
open Go.RowKit Go.Shelf Go.Maps Go.Sort Byt Laws
set_option linter.unusedVariables false
set_option maxRecDepth 100000
set_option linter.unusedSimpArgs false

/-- A change as the reference keeps it. -/
structure Rc where
  kind : Nat
  name : ByteArray
  other : ByteArray
  at_ : Nat
/-- The reference's disk. -/
structure Rm where
  rig : Rig
  room : Nat
  fl : List Fl
  now : List (Key × Nat)
  su : List (Key × Nat)
  ch : List Rc
  down : Bool
def rcRow (l : List Rc) : List Value := l.flatMap fun c => [.int .i64 c.kind, .string c.name, .string c.other, .int .i64 c.at_]
def ptrRow (fb : Nat → Nat) (n : Nat) : List Value := (List.range n).map fun i => .pointer (some ⟨fb i, 0, none⟩)
def rcell (m : Rm) (vf vn vs vc : Value) (j : Nat) : Value :=
  match j with
  | 0 => .int .i64 m.room
  | 1 => vf
  | 2 => vn
  | 3 => vs
  | 4 => vc
  | 5 => .int .i64 m.rig.units
  | 6 => .int .i64 m.rig.after
  | 7 => .int .i64 m.rig.calls
  | 8 => .int .i64 m.rig.part
  | _ => .bool m.down
/-- What lies in memory is the reference's disk m. T: whose a block is: 1 the disk, 2 its files' list, 3 now, 4 sure, 5 its changes, 10 + 2i file i, 11 + 2i its bytes. -/
structure Rd (T : Nat → Nat) (w : World) (d : Nat) (fb : Nat → Nat) (m : Rm) (vf vn vs vc : Value) : Prop where
  top : Fld 10 w d (rcell m vf vn vs vc)
  td : T d = 1
  fresh : ∀ b, w.heap.size ≤ b → T b = 0
  fls : w.ownsRow 0 96 1 vf m.fl.length (ptrRow fb m.fl.length)
  tf : ∀ b, vf.ownBlock = some b → T b = 2
  dir : w.ownsRow 0 98 2 vn m.now.length (enRow m.now)
  tn : ∀ b, vn.ownBlock = some b → T b = 3
  sur : w.ownsRow 0 98 2 vs m.su.length (enRow m.su)
  ts : ∀ b, vs.ownBlock = some b → T b = 4
  chg : w.ownsRow 0 119 4 vc m.ch.length (rcRow m.ch)
  tc : ∀ b, vc.ownBlock = some b → T b = 5
  file : ∀ i f, m.fl[i]? = some f → ∃ a c, FileAt T w (fb i) i f a c
  rises : Rises m.now
  risesS : Rises m.su
  ids : ∀ p ∈ m.now, p.2 < m.fl.length
  idsS : ∀ p ∈ m.su, p.2 < m.fl.length
  room : m.room ≤ 9223372036854775807
  most : m.now.length ≤ 9000000
  mostS : m.su.length ≤ 9000000
  mostF : m.fl.length ≤ 100000000
  rok : m.rig.ok
/-- Nothing of the disk's has turned. -/
theorem Rd.keep {T : Nat → Nat} {w w' : World} {d : Nat} {fb : Nat → Nat} {m : Rm} {vf vn vs vc : Value} {bs : List Nat} (h : Rd T w d fb m vf vn vs vc) (hk : Keep bs w w') (h0 : ∀ x ∈ bs, T x = 0) : Rd T w' d fb m vf vn vs vc := by
  have hx : ∀ {v : Value} {t : Nat}, 0 < t → (∀ b, v.ownBlock = some b → T b = t) → ∀ g, v.ownBlock = some g → g ∉ bs := fun ht hv g hg hm => by
    have h1 := hv g hg
    have h2 := h0 g hm
    omega
  refine { h with top := h.top.keep hk (fun hm => by have h1 := h0 d hm; have h2 := h.td; omega), fresh := fun b hb' => h.fresh b (Nat.le_trans hk.size hb'), fls := hk.own h.fls (hx (by omega) h.tf), dir := hk.own h.dir (hx (by omega) h.tn), sur := hk.own h.sur (hx (by omega) h.ts), chg := hk.own h.chg (hx (by omega) h.tc), file := fun i f hf => ?_ }
  obtain ⟨a, c, hf⟩ := h.file i f hf
  exact ⟨a, c, hf.keep hk (fun x hx => by have := h0 x hx; omega) (fun x hx => by have := h0 x hx; omega)⟩
theorem Rd.below {T : Nat → Nat} {w w' : World} {d : Nat} {fb : Nat → Nat} {m : Rm} {vf vn vs vc : Value} (h : Rd T w d fb m vf vn vs vc) (hb : Below w.heap.size w w') : Rd T w' d fb m vf vn vs vc := h.keep (Keep.below (bs := []) hb) (by simp)
/-- The other disk's step: what is this disk's is not that one's. -/
theorem Rd.goes {T T' S : Nat → Nat} {w w' : World} {d : Nat} {fb : Nat → Nat} {m : Rm} {vf vn vs vc : Value} (h : Rd T w d fb m vf vn vs vc) (hg : Goes S T' w w') (hd : ∀ b, b < w.heap.size → T b = 0 ∨ S b = 0) : Rd T w' d fb m vf vn vs vc := by
  have hk : Keep ((List.range w.heap.size).filter fun b => decide (T b = 0)) w w' := ⟨hg.os, hg.tape, hg.output, hg.size, fun b hb hn => (hg.block b hb (by
    rcases hd b hb with h1 | h1
    · exact absurd (by simp [hb, h1]) hn
    · exact h1)).1⟩
  exact h.keep hk (fun x hx => by simp at hx; exact hx.2)
theorem ptrRow_get {fb : Nat → Nat} {n i : Nat} (h : i < n) : (ptrRow fb n)[i]? = some (.pointer (some ⟨fb i, 0, none⟩)) := by
  simp [ptrRow, h]
theorem ptrRow_snoc (fb : Nat → Nat) (n : Nat) : ptrRow fb (n + 1) = ptrRow fb n ++ [.pointer (some ⟨fb n, 0, none⟩)] := by
  simp [ptrRow, List.range_succ]
end Dsk
end Go.Proofs.Ytbloifnibgdeoaa
