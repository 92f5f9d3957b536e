import Derived.Test.YtodgomgacgoliaaLi5
import Derived.BigQuiet
import Derived.Deep.RegionWith
namespace Go.Proofs.Ytodgomgacgoliaa
namespace Lin
open Go.RowKit Go.Shelf Laws Irw
set_option linter.unusedVariables false
set_option maxRecDepth 100000

/-- One call of a script: its kind, its number, of which side. -/
structure OpD where
  kind : Int
  n : Int
  second : Bool
def OpRow (w : World) (b off : Nat) (l : List OpD) : Prop := b < w.heap.size ∧ ∀ (i : Nat) (x : OpD), l[i]? = some x → w.cell? ⟨b, off + i * 3, none⟩ = some (.int .i64 x.kind) ∧ w.cell? ⟨b, off + i * 3 + 1, none⟩ = some (.int .i64 x.n) ∧ w.cell? ⟨b, off + i * 3 + 2, none⟩ = some (.bool x.second)
def IsOps (w : World) (a : Option Addr) (l : List OpD) : Prop := l ≠ [] → ∃ b off, a = some ⟨b, off, none⟩ ∧ OpRow w b off l

theorem place_eq (a : Option Addr) (c n : Nat) (l : List Int) (x z : Int) (w : World) (ha : IsI w a l) (hlen : l.length ≤ 9223372036854775807) (hn : n = l.length) (hz : plc l x = z) :
    Calls Try.prog 27 #[.slice a n c, .int .i64 x] w fun e w' => e = .returned (.int .i64 z) ∧ w' = w := by
  subst hz
  exact place_any a c n l x w ha hlen hn
theorem isI_of_owns {w : World} {base : Nat} {a : Option Addr} {n c : Nat} {l : List Int} (h : w.ownsRow base 3 1 (.slice a n c) n (cellsI l)) (hn : n = l.length) : IsI w a l := by
  subst hn
  have h1 : OwnL 0 (fun _ => 0) w (.slice a l.length c) l := ⟨⟨h.1, by
    rcases h.2 with h2 | ⟨g, cap, cur, hv, _, hr⟩
    · exact .inl h2
    · exact .inr ⟨g, cap, cur, hv, Nat.zero_le _, hr⟩⟩, fun _ _ => rfl⟩
  obtain ⟨a', c', e, hi, _⟩ := h1.form
  simp only [Value.slice.injEq] at e
  obtain ⟨rfl, _, _⟩ := e
  exact hi
/-- What stands between two rounds of LineFair. -/
structure LF (w0 : World) (T : Nat → Nat) (w : World) (p : Nat) (aw : Option Addr) (cw : Nat) (az : Option Addr) (cs : Nat) (ls ss : List Int) (i : Nat) : Prop where
  line : LineAt 1 T w p ls
  who : OwnL 3 T w (.slice aw ls.length cw) ls
  since : OwnL 4 T w (.slice az ss.length cs) ss
  old : Old w0 T w
  nd : ls.Nodup
  si : Since ls ss i
  len : ls.length ≤ i
theorem LF.below {w0 : World} {T : Nat → Nat} {w w' : World} {p : Nat} {aw : Option Addr} {cw : Nat} {az : Option Addr} {cs : Nat} {ls ss : List Int} {i : Nat} (h : LF w0 T w p aw cw az cs ls ss i) (hb : Below w.heap.size w w') : LF w0 T w' p aw cw az cs ls ss i :=
  ⟨h.line.below hb, h.who.below hb, h.since.below hb, h.old.goes (Goes.below (t := fun _ => False) hb) (fun z => z), h.nd, h.si, h.len⟩
theorem LF.next {w0 : World} {T : Nat → Nat} {w : World} {p : Nat} {aw : Option Addr} {cw : Nat} {az : Option Addr} {cs : Nat} {ls ss : List Int} {i : Nat} (h : LF w0 T w p aw cw az cs ls ss i) : LF w0 T w p aw cw az cs ls ss (i + 1) :=
  ⟨h.line, h.who, h.since, h.old, h.nd, by have := h.si.next; simpa using this, by have := h.len; omega⟩

end Lin
end Go.Proofs.Ytodgomgacgoliaa
