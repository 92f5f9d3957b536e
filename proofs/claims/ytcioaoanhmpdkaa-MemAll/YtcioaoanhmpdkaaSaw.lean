import Derived.Test.YtcioaoanhmpdkaaProg
import Derived.Test.YtcioaoanhmpdkaaChk
import Derived.WalkKit
import Derived.WalkSpells
import Derived.WalkLawsBesides
import Derived.Laws.AppendOwnNone
import Derived.Deep.AppendLies
import Derived.Deep.QuietTactic
import Derived.BigQuiet
namespace Go.Proofs.Ytcioaoanhmpdkaa
namespace Room
open Go.RowKit KMath Cmp Ent Chk
set_option linter.unusedVariables false

/-- The marks behind a list. -/
def wordB (i : Nat) : ByteArray := if i % 2 = 0 then ⟨#[60, 111, 110, 101, 62]⟩ else ⟨#[60, 116, 119, 111, 62]⟩
def marks (k : Nat) : List Wr := (List.range k).map fun i => (wordB i, false, ⟨#[]⟩)
theorem marks_succ (k : Nat) : marks (k + 1) = marks k ++ [(wordB k, false, ⟨#[]⟩)] := by simp [marks, List.range_succ]
theorem marks_length (k : Nat) : (marks k).length = k := by simp [marks]
theorem marks_get {k i : Nat} (h : i < k) : (marks k)[i]? = some (wordB i, false, ⟨#[]⟩) := by simp [marks, h]

set_option maxHeartbeats 400000 in
theorem word_any (i : Nat) (w : World) (hi : i ≤ 1000000) :
    Calls Try.prog 83 #[.int .i64 i] w fun e w' => e = .returned (.string (wordB i)) ∧ w' = w := by
  have e1 : ((i : Int).tmod 2) = ((i % 2 : Nat) : Int) := by
    rw [Int.tmod_eq_emod_of_nonneg (by omega)]; omega
  unfold wordB
  by_cases h : i % 2 = 0
  · have g : ((i : Int) % 2 == 0) = true := by simp; omega
    rw [if_pos h]
    go_enter Try.func83, Try.ntmps83
    go_wp2
    go_ret
    exact ⟨rfl, rfl⟩
  · have g : ((i : Int) % 2 == 0) = false := by simp; omega
    rw [if_neg h]
    go_enter Try.func83, Try.ntmps83
    go_wp2
    go_ret
    exact ⟨rfl, rfl⟩

/-- The cells of writes. -/
def cellsW (ws : List Wr) : List Value := ws.flatMap fun x => [.string x.1, .bool x.2.1, .string x.2.2]
theorem cellsW_append (l r : List Wr) : cellsW (l ++ r) = cellsW l ++ cellsW r := by simp [cellsW]
theorem cellsW_length (l : List Wr) : (cellsW l).length = l.length * 3 := by
  induction l with
  | nil => rfl
  | cons x l ih => simp [cellsW] at ih ⊢; omega
theorem cellsW_get (l : List Wr) (i : Nat) (x : Wr) (h : l[i]? = some x) :
    (cellsW l)[i * 3]? = some (.string x.1) ∧ (cellsW l)[i * 3 + 1]? = some (.bool x.2.1) ∧ (cellsW l)[i * 3 + 2]? = some (.string x.2.2) := by
  induction l generalizing i with
  | nil => simp at h
  | cons y l ih =>
    cases i with
    | zero => simp at h; subst h; simp [cellsW]
    | succ i =>
      have := ih i (by simpa using h)
      simp only [cellsW, List.flatMap_cons] at this ⊢
      rw [show (i + 1) * 3 = i * 3 + 3 by omega, show i * 3 + 3 + 1 = (i * 3 + 1) + 3 by omega, show i * 3 + 3 + 2 = (i * 3 + 2) + 3 by omega]
      rw [List.getElem?_append_right (by simp), List.getElem?_append_right (by simp), List.getElem?_append_right (by simp)]
      simpa using this
theorem cellsW_inv (l : List Wr) (j : Nat) (u : Value) (h : (cellsW l)[j]? = some u) :
    ∃ i x, l[i]? = some x ∧ ((j = i * 3 ∧ u = .string x.1) ∨ (j = i * 3 + 1 ∧ u = .bool x.2.1) ∨ (j = i * 3 + 2 ∧ u = .string x.2.2)) := by
  have hj : j < (cellsW l).length := (List.getElem?_eq_some_iff.1 h).1
  rw [cellsW_length] at hj
  have hi : j / 3 < l.length := by omega
  obtain ⟨h0, h1, h2⟩ := cellsW_get l (j / 3) _ (List.getElem?_eq_getElem hi)
  refine ⟨j / 3, _, List.getElem?_eq_getElem hi, ?_⟩
  rcases (show j = j / 3 * 3 ∨ j = j / 3 * 3 + 1 ∨ j = j / 3 * 3 + 2 by omega) with e | e | e
  · rw [← e, h] at h0; exact .inl ⟨e, by simpa using h0⟩
  · rw [← e, h] at h1; exact .inr (.inl ⟨e, by simpa using h1⟩)
  · rw [← e, h] at h2; exact .inr (.inr ⟨e, by simpa using h2⟩)
theorem cellsW_one (l : List Wr) : ∀ u ∈ cellsW l, u.oneCell' = true := by
  intro u hu
  obtain ⟨j, hj⟩ := List.getElem?_of_mem hu
  obtain ⟨i, x, _, h⟩ := cellsW_inv l j u hj
  rcases h with ⟨_, rfl⟩ | ⟨_, rfl⟩ | ⟨_, rfl⟩ <;> rfl

/-- append of a slice that may be nil. -/
theorem wpList_append_either {P : Program} {w : World} {ops : Array Oper} {rest : List Oper} {o : Oper} {a : Act} {Q : Exit → Act → World → Prop} (hgd : o.guard = none) (s x : Operand) (t : TypeId)
    (ho : o.op = .call { callee := .builtin .append, args := #[s, x], argTypes := #[t, t] })
    (base : Nat) (e : TypeId) (i : TypeInfo) (z : Value) (size bytes : Nat) (ht : P.underlying t = some (.slice e)) (hi : P.info? e = some i) (hz : i.zero = some z)
    (hsize : i.size = size) (hby : i.bytes = bytes) (hzs : z.cells.size = size) (hsz : 0 < size)
    (v : Value) (n : Nat) (xs : List Value) (hs : a.eval s = v) (hown : w.ownsRow base e size v n xs)
    (ao : Option Addr) (m c : Nat) (hn : ao = none → m = 0 ∧ c = 0) (news : List Value) (hx : a.eval x = .slice ao m c) (hl : news.length = m * size) (hnews : ∀ ad, ao = some ad → ∀ j u, news[j]? = some u → w.cell? (ad.add j) = some u) (h1 : ∀ u ∈ news, u.oneCell' = true)
    (h63 : n + m ≤ maxLen) (hbytes : (n + m) * bytes ≤ 140737488355328) (hbase : base ≤ w.heap.size)
    (h : ∀ v' w', w'.ownsRow base e size v' (n + m) (xs ++ news) → w.grownBy w' v.ownBlock → wpList P ops Q rest (a.put o.dst v') w') : wpList P ops Q (o :: rest) a w := by
  cases ao with
  | none =>
    obtain ⟨rfl, rfl⟩ := hn rfl
    have hnil : news = [] := by simpa using hl
    subst hnil
    exact wpList_append_own_none hgd s x t ho base e i size ht hi v n xs hs hown hx (h v w (by simpa using hown) (World.grownBy.refl _ _))
  | some ad =>
    exact wpList_append_own w hgd s x t ho base e i z size bytes ht hi hz hsize hby hzs hsz v n xs hs hown ad m c news hx hl (hnews ad rfl) h1 h63 hbytes hbase fun v' w' h2 h3 _ => h v' w' h2 h3

theorem news_of {w : World} {a : Option Addr} {ws : List Wr} (hrow : ws ≠ [] → ∃ b off, a = some ⟨b, off, none⟩ ∧ WrRow w b off ws) (o : Obj) :
    ∀ ad, a = some ad → ∀ j u, (cellsW ws)[j]? = some u → (w.alloc o).cell? (ad.add j) = some u := by
  intro ad had j u hu
  obtain ⟨i, x, hx, hc⟩ := cellsW_inv ws j u hu
  obtain ⟨b, off, h', hlt, hr⟩ := hrow (by intro e; rw [e] at hx; simp at hx)
  rw [had] at h'
  cases h'
  obtain ⟨c0, c1, c2⟩ := hr i x hx
  have key : ∀ t, (w.alloc o).cell? ((⟨b, off, none⟩ : Addr).add t) = w.cell? ⟨b, off + t, none⟩ := fun t => by
    rw [show (⟨b, off, none⟩ : Addr).add t = ⟨b, off + t, none⟩ by unfold Addr.add; by_cases ht : t = 0 <;> simp [ht]]
    exact World.cell?_alloc_past _ _ _ (by exact hlt)
  rcases hc with ⟨rfl, rfl⟩ | ⟨rfl, rfl⟩ | ⟨rfl, rfl⟩
  · rw [key, c0]
  · rw [key, ← c1]; rfl
  · rw [key, ← c2]; rfl

theorem own_shape {w : World} {base : Nat} {e : TypeId} {size : Nat} {v : Value} {n : Nat} {xs : List Value} (h : w.ownsRow base e size v n xs) (hn : 0 < n) : ∃ g c, v = .slice (some ⟨g, 0, none⟩) n c ∧ n ≤ c := by
  rcases h.2 with ⟨_, h0⟩ | ⟨g, c, cur, h', _, _, hc, _⟩
  · omega
  · exact ⟨g, c, h', hc⟩
theorem own_at {g H : Nat} (h : (Value.slice none 0 0).ownBlock = some g ∨ g = H) : g = H := by
  rcases h with h | h
  · cases h
  · exact h

theorem carry {wr w2 : World} {o : Obj} (hgr : (wr.alloc o).grownBy w2 none) (R j : Nat) (hR : R < wr.heap.size) : w2.cell? ⟨R, j, none⟩ = wr.cell? ⟨R, j, none⟩ ∧ w2.frozen? ⟨R, j, none⟩ = wr.frozen? ⟨R, j, none⟩ :=
  ⟨(hgr.cell_far ⟨R, j, none⟩ (by simp; omega) (by simp)).trans (World.cell?_alloc_past _ R j hR), (hgr.frozen_far ⟨R, j, none⟩ (by simp; omega) (by simp)).trans (World.frozen?_alloc_past _ R j hR)⟩

theorem news_set (w : World) (p : Addr) (x : Value) (cs : Array Value) (t : TypeId) : ∀ j u, cs.toList[j]? = some u → ((w.setCell p x).alloc (.cells cs t)).cell? ((⟨w.heap.size, 0, none⟩ : Addr).add j) = some u := by
  have h := World.news_of_block (heap_alloc_new (w.setCell p x) (.cells cs t))
  have e : (w.setCell p x).heap.size = w.heap.size := by simp
  rw [e] at h
  exact h

theorem set_other (w : World) (R i j : Nat) (u : Value) (h : i ≠ j) : (w.setCell ⟨R, i, none⟩ u).cell? ⟨R, j, none⟩ = w.cell? ⟨R, j, none⟩ := World.cell?_setCell_other _ _ _ _ (fun e => h (by cases e; rfl))
theorem set13 {w2 w3 : World} {R : Nat} {x u : Value} {o : Obj} (hgr : ((w2.setCell ⟨R, 12, none⟩ x).alloc o).grownBy w3 none) (hR : R < w2.heap.size) (h : w2.cell? ⟨R, 13, none⟩ = some u) : ∃ u', w3.cell? ⟨R, 13, none⟩ = some u' := by
  refine ⟨u, (carry hgr R 13 (by simpa using hR)).1.trans ?_⟩
  rw [set_other _ _ _ _ _ (by omega)]
  exact h
theorem frz13 {w2 w3 : World} {R : Nat} {x : Value} {o : Obj} (hgr : ((w2.setCell ⟨R, 12, none⟩ x).alloc o).grownBy w3 none) (hR : R < w2.heap.size) (h : w2.frozen? ⟨R, 13, none⟩ = false) : w3.frozen? ⟨R, 13, none⟩ = false := by
  refine (carry hgr R 13 (by simpa using hR)).2.trans ?_
  rw [World.frozen?_setCell]
  exact h

theorem gb_trans {a b c : World} {r : Option Nat} (h : a.grownBy b r) (k : b.grownBy c r) : a.grownBy c r :=
  ⟨k.os.trans h.os, k.tape.trans h.tape, k.output.trans h.output, Nat.le_trans h.size k.size, fun i hi hr => (k.block i (Nat.lt_of_lt_of_le hi h.size) hr).trans (h.block i hi hr)⟩
theorem gb_below {a b : World} {r : Option Nat} (h : Below a.heap.size a b) : a.grownBy b r := ⟨h.os, h.tape, h.output, h.size, fun i hi _ => h.block i hi⟩
theorem gb_none {a b : World} {r : Option Nat} (h : a.grownBy b none) : a.grownBy b r := ⟨h.os, h.tape, h.output, h.size, fun i hi _ => h.block i hi (by simp)⟩
theorem gb_set (w : World) (R j : Nat) (u : Value) : w.grownBy (w.setCell ⟨R, j, none⟩ u) (some R) := ⟨rfl, rfl, rfl, by simp, fun i _ hr => Below.heap_setCell _ _ _ _ (by intro e; exact hr (by rw [e]))⟩

/-- What the room holds behind a list that was laid. -/
def RoomIs (w : World) (R g : Nat) (ws : List Wr) (room : Nat) : Prop :=
  ∃ g2 c2 g3 c3 c : Nat, (R < g2 ∧ R < g3 ∧ R < g ∧ ∀ j, w.frozen? ⟨g, j, none⟩ = false) ∧ R < w.heap.size ∧ g2 < w.heap.size ∧ g3 < w.heap.size ∧ w.cell? ⟨R, 12, none⟩ = some (.slice (some ⟨g2, 0, none⟩) 1 c2) ∧ w.cell? ⟨R, 13, none⟩ = some (.slice (some ⟨g3, 0, none⟩) 1 c3) ∧
    w.cell? ⟨g2, 0, none⟩ = some (.slice (some ⟨g, 0, none⟩) (ws.length + room) c) ∧ w.cell? ⟨g3, 0, none⟩ = some (.int .i64 ws.length) ∧ WrRow w g 0 (ws ++ marks room)

theorem RoomIs.below {w w' : World} {R g : Nat} {ws : List Wr} {room : Nat} (h : RoomIs w R g ws room) (hb : Below w.heap.size w w') : RoomIs w' R g ws room := by
  obtain ⟨g2, c2, g3, c3, c, l0, l1, l2, l3, e1, e2, e3, e4, hr⟩ := h
  have hs := hb.size
  exact ⟨g2, c2, g3, c3, c, ⟨l0.1, l0.2.1, l0.2.2.1, fun j => (hb.frozen (p := ⟨g, j, none⟩) hr.1).trans (l0.2.2.2 j)⟩, by omega, by omega, by omega, (hb.cell (p := ⟨R, 12, none⟩) l1).trans e1, (hb.cell (p := ⟨R, 13, none⟩) l1).trans e2, (hb.cell (p := ⟨g2, 0, none⟩) l2).trans e3, (hb.cell (p := ⟨g3, 0, none⟩) l3).trans e4, hr.below hb hr.1⟩

theorem row_of_own {w : World} {base g n c : Nat} {ws : List Wr} {e : TypeId} (h : w.ownsRow base e 3 (.slice (some ⟨g, 0, none⟩) n c) n (cellsW ws)) (hn : n = ws.length) : WrRow w g 0 ws := by
  refine ⟨(h.lt g rfl).2, fun i x hx => ?_⟩
  have hi : i < ws.length := (List.getElem?_eq_some_iff.1 hx).1
  obtain ⟨h0, h1, h2⟩ := cellsW_get ws i x hx
  refine ⟨?_, ?_, ?_⟩
  · rw [Nat.zero_add, h.cellAt _ (by omega)]; exact h0
  · rw [Nat.zero_add, h.cellAt _ (by omega)]; exact h1
  · rw [Nat.zero_add, h.cellAt _ (by omega)]; exact h2

theorem own_froz {w : World} {base g n c : Nat} {xs : List Value} {e : TypeId} {z : Nat} (h : w.ownsRow base e z (.slice (some ⟨g, 0, none⟩) n c) n xs) : ∀ j, w.frozen? ⟨g, j, none⟩ = false := by
  intro j
  rcases h.2 with ⟨h1, _⟩ | ⟨g', cap, cur, hv, _, hh, _⟩
  · cases h1
  · cases hv
    simp [World.frozen?, hh]
theorem fin {w wr w2 w3 : World} {R g c g2 c2 g3 c3 k : Nat} {ws : List Wr} {u13 : Value} (hR : R < w.heap.size) (hB : Below w.heap.size w wr)
    (hO : wr.ownsRow w.heap.size 73 3 (.slice (some ⟨g, 0, none⟩) (ws.length + k) c) (ws.length + k) (cellsW (ws ++ marks k)))
    (d12 : ∃ u, w2.cell? ⟨R, 12, none⟩ = some u) (n13 : w3.cell? ⟨R, 13, none⟩ = some u13)
    (h2 : (wr.alloc (.cells #[.slice (some ⟨g, 0, none⟩) (ws.length + k) c] 52)).grownBy w2 none ∧ w2.ownsRow wr.heap.size 52 1 (.slice (some ⟨g2, 0, none⟩) 1 c2) 1 [.slice (some ⟨g, 0, none⟩) (ws.length + k) c] ∧ g2 = wr.heap.size + 1)
    (h3 : ((w2.setCell ⟨R, 12, none⟩ (.slice (some ⟨g2, 0, none⟩) 1 c2)).alloc (.cells #[.int .i64 ws.length] 3)).grownBy w3 none ∧ w3.ownsRow w2.heap.size 3 1 (.slice (some ⟨g3, 0, none⟩) 1 c3) 1 [.int .i64 ws.length] ∧ g3 = w2.heap.size + 1) :
    RoomIs (w3.setCell ⟨R, 13, none⟩ (.slice (some ⟨g3, 0, none⟩) 1 c3)) R g ws k ∧ w.grownBy (w3.setCell ⟨R, 13, none⟩ (.slice (some ⟨g3, 0, none⟩) 1 c3)) (some R) ∧
      ∀ j, j ≠ 12 → j ≠ 13 → (w3.setCell ⟨R, 13, none⟩ (.slice (some ⟨g3, 0, none⟩) 1 c3)).cell? ⟨R, j, none⟩ = w.cell? ⟨R, j, none⟩ := by
  obtain ⟨gr2, o2, e2⟩ := h2
  obtain ⟨gr3, o3, e3⟩ := h3
  have s1 := hB.size
  have s2 := gr2.size
  have s3 := gr3.size
  simp at s2 s3
  have hRr : R < wr.heap.size := by omega
  have hR2 : R < w2.heap.size := by omega
  have O1 := ownsRow_setCell_below (a := ⟨R, 13, none⟩) (((ownsRow_setCell_below (a := ⟨R, 12, none⟩) ((hO.alloc _).kept gr2 (.inr (by simp [Value.ownBlock]))) hR (.slice (some ⟨g2, 0, none⟩) 1 c2)).alloc _).kept gr3 (.inr (by simp [Value.ownBlock]))) hR (.slice (some ⟨g3, 0, none⟩) 1 c3)
  have O2 := ownsRow_setCell_below (a := ⟨R, 13, none⟩) (((ownsRow_setCell_below (a := ⟨R, 12, none⟩) o2 hRr (.slice (some ⟨g2, 0, none⟩) 1 c2)).alloc _).kept gr3 (.inr (by simp [Value.ownBlock]))) hRr (.slice (some ⟨g3, 0, none⟩) 1 c3)
  have O3 := ownsRow_setCell_below (a := ⟨R, 13, none⟩) o3 hR2 (.slice (some ⟨g3, 0, none⟩) 1 c3)
  obtain ⟨u12, d12⟩ := d12
  have hgl := (O1.lt g rfl).1
  refine ⟨⟨g2, c2, g3, c3, c, ⟨by omega, by omega, by omega, own_froz O1⟩, by simp; omega, (O2.lt g2 rfl).2, (O3.lt g3 rfl).2, ?_, World.cell?_setCell_same _ _ _ n13, ?_, ?_, row_of_own O1 (by simp [marks_length])⟩, ?_, ?_⟩
  · rw [set_other _ _ _ _ _ (by omega), (carry gr3 R 12 (by simpa using hR2)).1]
    exact World.cell?_setCell_same _ _ _ d12
  · have := O2.cellAt 0 (by omega)
    simpa using this
  · have := O3.cellAt 0 (by omega)
    simpa using this
  · exact gb_trans (gb_trans (gb_trans (gb_below hB) (gb_trans (World.grownBy_alloc _ _ _) (gb_none gr2))) (gb_trans (gb_set w2 R 12 _) (gb_trans (World.grownBy_alloc _ _ _) (gb_none gr3)))) (gb_set w3 R 13 _)
  · intro j h12 h13
    rw [set_other _ _ _ _ _ (Ne.symm h13), (carry gr3 R j (by simpa using hR2)).1, set_other _ _ _ _ _ (Ne.symm h12), (carry gr2 R j hRr).1]
    exact hB.cell (p := ⟨R, j, none⟩) hR

theorem info65 : (Try.prog.info? 73).map (fun i => (i.zero, i.size, i.bytes)) = some (some (.agg #[.string ⟨#[]⟩, .bool false, .string ⟨#[]⟩]), 3, 40) := by kernel_rfl
theorem info27 : (Try.prog.info? 52).map (fun i => (i.zero, i.size, i.bytes)) = some (some (.slice none 0 0), 1, 24) := by kernel_rfl
theorem info3 : (Try.prog.info? 3).map (fun i => (i.zero, i.size, i.bytes)) = some (some (.int .i64 0), 1, 8) := by kernel_rfl

set_option maxRecDepth 100000 in
set_option maxHeartbeats 1000000 in
theorem layWrites_any (R : Nat) (a : Option Addr) (cap : Nat) (ws : List Wr) (room : Nat) (w : World) (hR : R < w.heap.size) (hroom : room ≤ 1000) (hroom1 : 0 < room)
    (hn : a = none → cap = 0) (h : IsWr w a ws) (hlen : ws.length ≤ 100000)
    (h12 : w.cell? ⟨R, 12, none⟩ = some (.slice none 0 0)) (h13 : w.cell? ⟨R, 13, none⟩ = some (.slice none 0 0)) (f12 : w.frozen? ⟨R, 12, none⟩ = false) (f13 : w.frozen? ⟨R, 13, none⟩ = false) :
    Calls Try.prog 91 #[.pointer (some ⟨R, 0, none⟩), .slice a ws.length cap, .int .i64 room] w fun e w' => ∃ g, e = .returned (.slice (some ⟨g, 0, none⟩) ws.length (ws.length + room)) ∧ RoomIs w' R g ws room ∧ w.grownBy w' (some R) ∧ ∀ j, j ≠ 12 → j ≠ 13 → w'.cell? ⟨R, j, none⟩ = w.cell? ⟨R, j, none⟩ := by
  obtain ⟨i65, hi, hz0, hz1, hz2⟩ := info_parts info65
  obtain ⟨hrow, hl63, hstr⟩ := h
  have HOWN : Hid ((w.alloc (.cells #[] 73)).ownsRow w.heap.size 73 3 (.slice (some ⟨w.heap.size, 0, none⟩) 0 0) 0 []) := World.ownsRow_lit w #[] 0 (Nat.le_refl _) (by simp [maxLen]) (by simp)
  have HN : Hid (a = none → ws.length = 0 ∧ cap = 0) := by
    intro e
    refine ⟨?_, hn e⟩
    by_cases hne : ws = []
    · simp [hne]
    · obtain ⟨b, off, h', _⟩ := hrow hne
      rw [e] at h'
      cases h'
  have HNEWS : Hid (∀ ad, a = some ad → ∀ j u, (cellsW ws)[j]? = some u → (w.alloc (.cells #[] 73)).cell? (ad.add j) = some u) := news_of hrow _
  clear hrow hl63 hstr hn
  go_enter Try.func91, Try.ntmps91
  go_wp2_with (at_builtin; refine wpList_append_either (by rfl) (.tmp 10) (.tmp 11) 52 (by rfl) w.heap.size 73 i65 _ 3 40 Try.underlying52 hi hz0 hz1 hz2 rfl (by omega) _ 0 [] (by rfl) HOWN.out a ws.length cap HN.out (cellsW ws) (by rfl) (cellsW_length ws) HNEWS.out (cellsW_one ws) (by unfold maxLen; omega) (by omega) (by simp) ?_; intro v1 w1 hown1 hgr1; have HG : Hid ((w.alloc (.cells #[] 73)).grownBy w1 (some w.heap.size)) := hgr1; clear hgr1)
  have HB1 : Hid (Below w.heap.size w w1) := (((Below.refl _ _).alloc (Nat.le_refl _) _).grown HG.out (by simp) (by intro k hk; cases hk; exact Nat.le_refl _))
  simp only [Nat.zero_add, List.nil_append] at hown1
  have HOWN1 : Hid (w1.ownsRow w.heap.size 73 3 v1 ws.length (cellsW ws)) := hown1
  clear hown1
  go_loopw [7, 8] (fun v i wr => ∃ k : Nat, k ≤ room ∧ i = .int .i64 k ∧ wr.ownsRow w.heap.size 73 3 v (ws.length + k) (cellsW (ws ++ marks k)) ∧ Below w.heap.size w wr) (fun _ i _ => room - (intOf i).toNat)
  case atStart => exact ⟨0, Nat.zero_le _, rfl, by simpa [marks] using HOWN1.out, HB1.out⟩
  case round =>
    obtain ⟨k, hk, rfl, hown, hbe⟩ := hrel
    have hsz := hbe.size
    have HO : Hid (wr.ownsRow w.heap.size 73 3 _ (ws.length + k) (cellsW (ws ++ marks k))) := hown
    have HB : Hid (Below w.heap.size w wr) := hbe
    clear hown hbe
    by_cases hlt : k < room
    · go_wp2_with (first | (go_at_call 83; refine (word_any k _ (by omega)).mono ?_; rintro e w' ⟨rfl, hw⟩; have hw2 := hw.symm; clear hw; subst hw2) | (at_builtin; refine wpList_append_own _ (by rfl) (.tmp 18) (.tmp 22) 52 (by rfl) w.heap.size 73 i65 _ 3 40 Try.underlying52 hi hz0 hz1 hz2 rfl (by omega) _ (ws.length + k) (cellsW (ws ++ marks k)) (by rfl) (HO.out.alloc _) ⟨wr.heap.size, 0, none⟩ 1 1 [.string (wordB k), .bool false, .string ⟨#[]⟩] (by rfl) (by rfl) (World.news_of_block (heap_alloc_new wr _)) (by intro u hu; simp at hu; rcases hu with rfl | rfl | rfl <;> rfl) (by unfold maxLen; omega) (by omega) (by simp; omega) ?_; intro v2 w2 hown2 hgr2 _; have HG2 : Hid ((wr.alloc (.cells #[.string (wordB k), .bool false, .string ⟨#[]⟩] 73)).grownBy w2 _) := hgr2; have HO2 : Hid (w2.ownsRow w.heap.size 73 3 v2 (ws.length + k + 1) (cellsW (ws ++ marks k) ++ [.string (wordB k), .bool false, .string ⟨#[]⟩])) := hown2; clear hgr2 hown2))
      have HB2 : Hid (Below w.heap.size w w2) := ((HB.out.alloc hsz _).grown HG2.out (by simp; omega) (fun j hj => (HO.out.lt j hj).1))
      refine ⟨⟨k + 1, by omega, by go_num, ?_, HB2.out⟩, by simp [intOf]; omega⟩
      have h2 := HO2.out
      rw [marks_succ, ← List.append_assoc, cellsW_append (ws ++ marks k)]
      exact h2
    · have hkr : k = room := by omega
      subst hkr
      obtain ⟨i27, hi27, hy0, hy1, hy2⟩ := info_parts info27
      obtain ⟨i3, hi3, hx0, hx1, hx2⟩ := info_parts info3
      obtain ⟨g, c, e7, hcap⟩ := own_shape HO.out (by omega)
      subst e7
      have b12 : wr.cell? ⟨R, 12, none⟩ = some (.slice none 0 0) := (HB.out.cell (p := ⟨R, 12, none⟩) hR).trans h12
      have b13 : wr.cell? ⟨R, 13, none⟩ = some (.slice none 0 0) := (HB.out.cell (p := ⟨R, 13, none⟩) hR).trans h13
      have k12 : wr.frozen? ⟨R, 12, none⟩ = false := (HB.out.frozen (p := ⟨R, 12, none⟩) hR).trans f12
      have k13 : wr.frozen? ⟨R, 13, none⟩ = false := (HB.out.frozen (p := ⟨R, 13, none⟩) hR).trans f13
      have hRw : R < wr.heap.size := by omega
      clear h12 h13 f12 f13
      go_wp2_with (first | (at_builtin; refine wpList_append_lies _ (by rfl) (.tmp 28) (.tmp 30) 33 (by rfl) wr.heap.size 52 i27 _ 1 24 Try.underlying33 hi27 hy0 hy1 hy2 rfl (by omega) (.slice none 0 0) 0 [] (by rfl) (World.ownsRow_nil _ _ _ _) ⟨wr.heap.size, 0, none⟩ 1 1 [.slice (some ⟨g, 0, none⟩) (ws.length + k) c] (by rfl) (by rfl) (World.news_of_block (heap_alloc_new _ _)) (by intro u hu; simp at hu; subst hu; rfl) (by omega) (by unfold maxLen; omega) (by omega) (by simp) (wr.heap.size + 1) (by simp) ?_; intro g2 c2 w2 hown2 hgr2 hat2 hlt2; have HX2 : Hid ((wr.alloc (.cells #[.slice (some ⟨g, 0, none⟩) (ws.length + k) c] 52)).grownBy w2 none ∧ w2.ownsRow wr.heap.size 52 1 (.slice (some ⟨g2, 0, none⟩) 1 c2) 1 [.slice (some ⟨g, 0, none⟩) (ws.length + k) c] ∧ g2 = wr.heap.size + 1) := ⟨hgr2, hown2, own_at hat2⟩; have d12 := (carry hgr2 R 12 hRw).1.trans b12; have d13 := (carry hgr2 R 13 hRw).1.trans b13; have m12 := (carry hgr2 R 12 hRw).2.trans k12; have m13 := (carry hgr2 R 13 hRw).2.trans k13; have hR2 : R < w2.heap.size := Nat.lt_of_lt_of_le hRw (by have := hgr2.size; simp at this; omega); clear hgr2 hown2 hat2 b12 b13 k12 k13) | (at_builtin; refine wpList_append_lies _ (by rfl) (.tmp 38) (.tmp 41) 27 (by rfl) w2.heap.size 3 i3 _ 1 8 Try.underlying27 hi3 hx0 hx1 hx2 rfl (by omega) (.slice none 0 0) 0 [] (by rfl) (World.ownsRow_nil _ _ _ _) ⟨w2.heap.size, 0, none⟩ 1 1 [.int .i64 ws.length] (by rfl) (by rfl) (news_set _ _ _ _ _) (by intro u hu; simp at hu; subst hu; rfl) (by omega) (by unfold maxLen; omega) (by omega) (by simp) (w2.heap.size + 1) (by simp) ?_; intro g3 c3 w3 hown3 hgr3 hat3 hlt3; have HX3 : Hid (((w2.setCell ⟨R, 12, none⟩ (.slice (some ⟨g2, 0, none⟩) 1 c2)).alloc (.cells #[.int .i64 ws.length] 3)).grownBy w3 none ∧ w3.ownsRow w2.heap.size 3 1 (.slice (some ⟨g3, 0, none⟩) 1 c3) 1 [.int .i64 ws.length] ∧ g3 = w2.heap.size + 1) := ⟨hgr3, hown3, own_at hat3⟩; have n13 : ∃ u, w3.cell? ⟨R, 13, none⟩ = some u := set13 hgr3 hR2 d13; have o13 : w3.frozen? ⟨R, 13, none⟩ = false := frz13 hgr3 hR2 m13; obtain ⟨u13, n13⟩ := n13; clear hgr3 hown3 hat3))
      go_ret
      exact ⟨g, rfl, fin hR HB.out HO.out ⟨_, d12⟩ n13 HX2.out HX3.out⟩

end Room
end Go.Proofs.Ytcioaoanhmpdkaa
namespace Go.Proofs.Ytcioaoanhmpdkaa
namespace Room
open Go.RowKit KMath Cmp Ent Chk
set_option linter.unusedVariables false

set_option maxHeartbeats 400000 in
theorem holdBytes_nil (R : Nat) (w : World) (h : w.cell? ⟨R, 0, none⟩ = some (.slice none 0 0)) :
    Calls Try.prog 53 #[.pointer (some ⟨R, 0, none⟩)] w fun e w' => e = .returned (.bool true) ∧ w' = w := by
  go_enter Try.func53, Try.ntmps53
  go_wp2
  refine wp_loop_rounds 1 ?_
  rw [rounds_succ]
  go_wp2
  go_ret
  exact ⟨rfl, rfl⟩

set_option maxHeartbeats 400000 in
theorem holdInts_nil (R : Nat) (w : World) (h : w.cell? ⟨R, 2, none⟩ = some (.slice none 0 0)) :
    Calls Try.prog 54 #[.pointer (some ⟨R, 0, none⟩)] w fun e w' => e = .returned (.bool true) ∧ w' = w := by
  go_enter Try.func54, Try.ntmps54
  go_wp2
  refine wp_loop_rounds 1 ?_
  rw [rounds_succ]
  go_wp2
  go_ret
  exact ⟨rfl, rfl⟩

set_option maxHeartbeats 400000 in
theorem holdNums_nil (R : Nat) (w : World) (h : w.cell? ⟨R, 4, none⟩ = some (.slice none 0 0)) :
    Calls Try.prog 55 #[.pointer (some ⟨R, 0, none⟩)] w fun e w' => e = .returned (.bool true) ∧ w' = w := by
  go_enter Try.func55, Try.ntmps55
  go_wp2
  refine wp_loop_rounds 1 ?_
  rw [rounds_succ]
  go_wp2
  go_ret
  exact ⟨rfl, rfl⟩

set_option maxHeartbeats 400000 in
theorem holdTexts_nil (R : Nat) (w : World) (h : w.cell? ⟨R, 6, none⟩ = some (.slice none 0 0)) :
    Calls Try.prog 56 #[.pointer (some ⟨R, 0, none⟩)] w fun e w' => e = .returned (.bool true) ∧ w' = w := by
  go_enter Try.func56, Try.ntmps56
  go_wp2
  refine wp_loop_rounds 1 ?_
  rw [rounds_succ]
  go_wp2
  go_ret
  exact ⟨rfl, rfl⟩

set_option maxHeartbeats 400000 in
theorem holdEntries_nil (R : Nat) (w : World) (h : w.cell? ⟨R, 8, none⟩ = some (.slice none 0 0)) :
    Calls Try.prog 57 #[.pointer (some ⟨R, 0, none⟩)] w fun e w' => e = .returned (.bool true) ∧ w' = w := by
  go_enter Try.func57, Try.ntmps57
  go_wp2
  refine wp_loop_rounds 1 ?_
  rw [rounds_succ]
  go_wp2
  go_ret
  exact ⟨rfl, rfl⟩

set_option maxHeartbeats 400000 in
theorem holdPairs_nil (R : Nat) (w : World) (h : w.cell? ⟨R, 10, none⟩ = some (.slice none 0 0)) :
    Calls Try.prog 58 #[.pointer (some ⟨R, 0, none⟩)] w fun e w' => e = .returned (.bool true) ∧ w' = w := by
  go_enter Try.func58, Try.ntmps58
  go_wp2
  refine wp_loop_rounds 1 ?_
  rw [rounds_succ]
  go_wp2
  go_ret
  exact ⟨rfl, rfl⟩

set_option maxHeartbeats 400000 in
theorem holdTables_nil (R : Nat) (w : World) (h : w.cell? ⟨R, 14, none⟩ = some (.slice none 0 0)) :
    Calls Try.prog 60 #[.pointer (some ⟨R, 0, none⟩)] w fun e w' => e = .returned (.bool true) ∧ w' = w := by
  go_enter Try.func60, Try.ntmps60
  go_wp2
  refine wp_loop_rounds 1 ?_
  rw [rounds_succ]
  go_wp2
  go_ret
  exact ⟨rfl, rfl⟩

set_option maxHeartbeats 400000 in
theorem holdPlaces_nil (R : Nat) (w : World) (h : w.cell? ⟨R, 16, none⟩ = some (.slice none 0 0)) :
    Calls Try.prog 61 #[.pointer (some ⟨R, 0, none⟩)] w fun e w' => e = .returned (.bool true) ∧ w' = w := by
  go_enter Try.func61, Try.ntmps61
  go_wp2
  refine wp_loop_rounds 1 ?_
  rw [rounds_succ]
  go_wp2
  go_ret
  exact ⟨rfl, rfl⟩

set_option maxHeartbeats 400000 in
theorem holdPlaceds_nil (R : Nat) (w : World) (h : w.cell? ⟨R, 18, none⟩ = some (.slice none 0 0)) :
    Calls Try.prog 62 #[.pointer (some ⟨R, 0, none⟩)] w fun e w' => e = .returned (.bool true) ∧ w' = w := by
  go_enter Try.func62, Try.ntmps62
  go_wp2
  refine wp_loop_rounds 1 ?_
  rw [rounds_succ]
  go_wp2
  go_ret
  exact ⟨rfl, rfl⟩

set_option maxHeartbeats 400000 in
theorem holdChunks_nil (R : Nat) (w : World) (h : w.cell? ⟨R, 20, none⟩ = some (.slice none 0 0)) :
    Calls Try.prog 63 #[.pointer (some ⟨R, 0, none⟩)] w fun e w' => e = .returned (.bool true) ∧ w' = w := by
  go_enter Try.func63, Try.ntmps63
  go_wp2
  refine wp_loop_rounds 1 ?_
  rw [rounds_succ]
  go_wp2
  go_ret
  exact ⟨rfl, rfl⟩

set_option maxHeartbeats 400000 in
theorem holdGroups_nil (R : Nat) (w : World) (h : w.cell? ⟨R, 22, none⟩ = some (.slice none 0 0)) :
    Calls Try.prog 64 #[.pointer (some ⟨R, 0, none⟩)] w fun e w' => e = .returned (.bool true) ∧ w' = w := by
  go_enter Try.func64, Try.ntmps64
  go_wp2
  refine wp_loop_rounds 1 ?_
  rw [rounds_succ]
  go_wp2
  go_ret
  exact ⟨rfl, rfl⟩

set_option maxHeartbeats 400000 in
theorem holdFiles_nil (R : Nat) (w : World) (h : w.cell? ⟨R, 24, none⟩ = some (.slice none 0 0)) :
    Calls Try.prog 65 #[.pointer (some ⟨R, 0, none⟩)] w fun e w' => e = .returned (.bool true) ∧ w' = w := by
  go_enter Try.func65, Try.ntmps65
  go_wp2
  refine wp_loop_rounds 1 ?_
  rw [rounds_succ]
  go_wp2
  go_ret
  exact ⟨rfl, rfl⟩

set_option maxHeartbeats 400000 in
theorem holdSteps_nil (R : Nat) (w : World) (h : w.cell? ⟨R, 26, none⟩ = some (.slice none 0 0)) :
    Calls Try.prog 66 #[.pointer (some ⟨R, 0, none⟩)] w fun e w' => e = .returned (.bool true) ∧ w' = w := by
  go_enter Try.func66, Try.ntmps66
  go_wp2
  refine wp_loop_rounds 1 ?_
  rw [rounds_succ]
  go_wp2
  go_ret
  exact ⟨rfl, rfl⟩

end Room
end Go.Proofs.Ytcioaoanhmpdkaa
namespace Go.Proofs.Ytcioaoanhmpdkaa
namespace Room
open Go.RowKit KMath Cmp Ent Chk
set_option linter.unusedVariables false

theorem word_int (x : Int) (i : Nat) (w : World) (hx : x = i) (hi : i ≤ 1000000) :
    Calls Try.prog 83 #[.int .i64 x] w fun e w' => e = .returned (.string (wordB i)) ∧ w' = w := by
  subst hx
  exact word_any i w hi

set_option maxHeartbeats 2000000 in
theorem holdWrites_any (R g : Nat) (ws : List Wr) (room : Nat) (w : World) (h : RoomIs w R g ws room) (hlen : ws.length ≤ 100000) (hroom : room ≤ 1000) :
    Calls Try.prog 59 #[.pointer (some ⟨R, 0, none⟩)] w fun e w' => e = .returned (.bool true) ∧ Below w.heap.size w w' := by
  have HR : Hid (RoomIs w R g ws room) := h
  clear h
  go_enter Try.func59, Try.ntmps59
  go_wp2
  go_loopw [3] (fun i wr => ∃ k : Nat, k ≤ 1 ∧ i = .int .i64 k ∧ Below w.heap.size w wr) (fun i _ => 1 - (intOf i).toNat)
  case atStart => exact ⟨0, by omega, rfl, Below.refl _ _⟩
  case round =>
    rename World => wo
    obtain ⟨k, hk, rfl, hbe⟩ := hrel
    have HB : Hid (Below w.heap.size w wo) := hbe
    have hsz := hbe.size
    obtain ⟨g2, c2, g3, c3, c, l0, l1, l2, l3, e1, e2, e3, e4, hr⟩ := HR.out.below hbe
    have HRow : Hid (WrRow wo g 0 (ws ++ marks room)) := hr
    have lg := hr.1
    clear hr hbe
    rcases (show k = 0 ∨ k = 1 by omega) with rfl | rfl
    · go_wp2
      go_loopw [5] (fun i w2 => ∃ m : Nat, m ≤ room ∧ i = .int .i64 ((ws.length + m : Nat) : Int) ∧ Below wo.heap.size wo w2) (fun i _ => ws.length + room - (intOf i).toNat)
      case atStart => exact ⟨0, by omega, rfl, Below.refl _ _⟩
      case round =>
        obtain ⟨m, hm, rfl, hbe2⟩ := hrel
        obtain ⟨hc2, hf2⟩ := bcell hbe2
        have hsz2 := hbe2.size
        have q1 := (hc2 R 12 l1).trans e1
        have q2 := (hc2 R 13 l1).trans e2
        have q3 := (hc2 g2 0 l2).trans e3
        have q4 := (hc2 g3 0 l3).trans e4
        have HB2 : Hid (Below wo.heap.size wo wr) := hbe2
        by_cases hlt : m < room
        · have hx : (ws ++ marks room)[ws.length + m]? = some (wordB m, false, ⟨#[]⟩) := by
            rw [List.getElem?_append_right (by omega)]
            simpa using marks_get hlt
          obtain ⟨c0, c1, c2'⟩ := HRow.out.2 _ _ hx
          have r0 := (hc2 g _ lg).trans c0
          have r1 := (hc2 g _ lg).trans c1
          have r2 := (hc2 g _ lg).trans c2'
          simp only [Nat.zero_add] at r0 r1 r2
          clear hc2 hf2 hbe2 hx e1 e2 e3 e4 c0 c1 c2'
          have hwm : m ≤ 1000000 := by omega
          go_wp2
          go_quiet ((go_at_call 83; exact Calls.quiet_of_same (word_int _ m _ (by omega) hwm)))
          go_wp2
          go_roundw
          case rel => exact ⟨m + 1, by omega, by go_num, below_drewN (HB2.out.alloc hsz2 _) nq⟩
          case measure => simp [intOf]; omega
        · clear hc2 hf2 hbe2 e1 e2 e3 e4
          go_wp2
          go_roundw
          case rel => exact ⟨1, by omega, by go_num, HB.out.trans (HB2.out.mono hsz)⟩
          case measure => simp [intOf]
    · go_wp2
      go_ret
      exact ⟨rfl, HB.out⟩

set_option maxHeartbeats 2000000 in
theorem hold_any (R g : Nat) (ws : List Wr) (room : Nat) (w : World) (h : RoomIs w R g ws room) (hlen : ws.length ≤ 100000) (hroom : room ≤ 1000)
    (hn : ∀ j, j < 28 → j ≠ 12 ∧ j ≠ 13 → w.cell? ⟨R, j, none⟩ = some (.slice none 0 0)) :
    Calls Try.prog 17 #[.pointer (some ⟨R, 0, none⟩)] w fun e w' => e = .returned (.bool true) ∧ Below w.heap.size w w' := by
  have HR : Hid (RoomIs w R g ws room) := h
  have hR : R < w.heap.size := by
    obtain ⟨_, _, _, _, _, _, h, _⟩ := h
    exact h
  clear h
  have n0 := hn 0 (by omega) (by omega)
  have n2 := hn 2 (by omega) (by omega)
  have n4 := hn 4 (by omega) (by omega)
  have n6 := hn 6 (by omega) (by omega)
  have n8 := hn 8 (by omega) (by omega)
  have n10 := hn 10 (by omega) (by omega)
  have n14 := hn 14 (by omega) (by omega)
  have n16 := hn 16 (by omega) (by omega)
  have n18 := hn 18 (by omega) (by omega)
  have n20 := hn 20 (by omega) (by omega)
  have n22 := hn 22 (by omega) (by omega)
  have n24 := hn 24 (by omega) (by omega)
  have n26 := hn 26 (by omega) (by omega)
  clear hn
  go_enter Try.func17, Try.ntmps17
  go_wp2_with (first | (go_at_call 53; refine (holdBytes_nil R _ n0).mono ?_; rintro e w' ⟨rfl, hw⟩; have hw2 := hw.symm; clear hw; subst hw2) | (go_at_call 54; refine (holdInts_nil R _ n2).mono ?_; rintro e w' ⟨rfl, hw⟩; have hw2 := hw.symm; clear hw; subst hw2) | (go_at_call 55; refine (holdNums_nil R _ n4).mono ?_; rintro e w' ⟨rfl, hw⟩; have hw2 := hw.symm; clear hw; subst hw2) | (go_at_call 56; refine (holdTexts_nil R _ n6).mono ?_; rintro e w' ⟨rfl, hw⟩; have hw2 := hw.symm; clear hw; subst hw2) | (go_at_call 57; refine (holdEntries_nil R _ n8).mono ?_; rintro e w' ⟨rfl, hw⟩; have hw2 := hw.symm; clear hw; subst hw2) | (go_at_call 58; refine (holdPairs_nil R _ n10).mono ?_; rintro e w' ⟨rfl, hw⟩; have hw2 := hw.symm; clear hw; subst hw2))
  refine (holdWrites_any R g ws room _ HR.out hlen hroom).mono ?_
  rintro e w1 ⟨rfl, hb1⟩
  have p14 : w1.cell? ⟨R, 14, none⟩ = some (.slice none 0 0) := (hb1.cell (p := ⟨R, 14, none⟩) hR).trans n14
  have p16 : w1.cell? ⟨R, 16, none⟩ = some (.slice none 0 0) := (hb1.cell (p := ⟨R, 16, none⟩) hR).trans n16
  have p18 : w1.cell? ⟨R, 18, none⟩ = some (.slice none 0 0) := (hb1.cell (p := ⟨R, 18, none⟩) hR).trans n18
  have p20 : w1.cell? ⟨R, 20, none⟩ = some (.slice none 0 0) := (hb1.cell (p := ⟨R, 20, none⟩) hR).trans n20
  have p22 : w1.cell? ⟨R, 22, none⟩ = some (.slice none 0 0) := (hb1.cell (p := ⟨R, 22, none⟩) hR).trans n22
  have p24 : w1.cell? ⟨R, 24, none⟩ = some (.slice none 0 0) := (hb1.cell (p := ⟨R, 24, none⟩) hR).trans n24
  have p26 : w1.cell? ⟨R, 26, none⟩ = some (.slice none 0 0) := (hb1.cell (p := ⟨R, 26, none⟩) hR).trans n26
  clear n0 n2 n4 n6 n8 n10 n14 n16 n18 n20 n22 n24 n26
  go_wp2_with (first | (go_at_call 60; refine (holdTables_nil R _ p14).mono ?_; rintro e w' ⟨rfl, hw⟩; have hw2 := hw.symm; clear hw; subst hw2) | (go_at_call 61; refine (holdPlaces_nil R _ p16).mono ?_; rintro e w' ⟨rfl, hw⟩; have hw2 := hw.symm; clear hw; subst hw2) | (go_at_call 62; refine (holdPlaceds_nil R _ p18).mono ?_; rintro e w' ⟨rfl, hw⟩; have hw2 := hw.symm; clear hw; subst hw2) | (go_at_call 63; refine (holdChunks_nil R _ p20).mono ?_; rintro e w' ⟨rfl, hw⟩; have hw2 := hw.symm; clear hw; subst hw2) | (go_at_call 64; refine (holdGroups_nil R _ p22).mono ?_; rintro e w' ⟨rfl, hw⟩; have hw2 := hw.symm; clear hw; subst hw2) | (go_at_call 65; refine (holdFiles_nil R _ p24).mono ?_; rintro e w' ⟨rfl, hw⟩; have hw2 := hw.symm; clear hw; subst hw2) | (go_at_call 66; refine (holdSteps_nil R _ p26).mono ?_; rintro e w' ⟨rfl, hw⟩; have hw2 := hw.symm; clear hw; subst hw2))
  go_ret
  exact ⟨rfl, hb1⟩

end Room
end Go.Proofs.Ytcioaoanhmpdkaa
namespace Go.Proofs.Ytcioaoanhmpdkaa
namespace Room
open Go.RowKit KMath Cmp Ent Chk
set_option linter.unusedVariables false

theorem WrRow_grown {w w' : World} {R b off : Nat} {ws : List Wr} (h : WrRow w b off ws) (hg : w.grownBy w' (some R)) (hne : b ≠ R) : WrRow w' b off ws := by
  refine ⟨Nat.lt_of_lt_of_le h.1 hg.size, fun i x hx => ?_⟩
  obtain ⟨h0, h1, h2⟩ := h.2 i x hx
  have key : ∀ o, w'.cell? ⟨b, o, none⟩ = w.cell? ⟨b, o, none⟩ := fun o => hg.cell_far ⟨b, o, none⟩ h.1 (by simpa using hne)
  exact ⟨(key _).trans h0, (key _).trans h1, (key _).trans h2⟩

theorem IsWr_of_room {w : World} {R g : Nat} {ws : List Wr} {room : Nat} (h : RoomIs w R g ws room) (hl : ws.length ≤ maxLen) (hs : ∀ x ∈ ws, x.1.size ≤ maxLen ∧ x.2.2.size ≤ maxLen) : IsWr w (some ⟨g, 0, none⟩) ws := by
  obtain ⟨g2, c2, g3, c3, c, l0, l1, l2, l3, e1, e2, e3, e4, hr⟩ := h
  refine ⟨fun _ => ⟨g, 0, rfl, hr.1, fun i x hx => hr.2 i x ?_⟩, hl, hs⟩
  rw [List.getElem?_append_left (List.getElem?_eq_some_iff.1 hx).1]
  exact hx

theorem room_lt {w : World} {R g : Nat} {ws : List Wr} {room : Nat} (h : RoomIs w R g ws room) : R < w.heap.size := by
  obtain ⟨_, _, _, _, _, _, h, _⟩ := h
  exact h

/-- What stands behind a first list that a new room has lent. -/
def Fresh (w w' : World) (g : Nat) (a : Option Addr) (ws : List Wr) : Prop :=
  RoomIs w' w.heap.size g ws 40 ∧ (∀ j, j < 28 → j ≠ 12 ∧ j ≠ 13 → w'.cell? ⟨w.heap.size, j, none⟩ = some (.slice none 0 0)) ∧ Below w.heap.size w w' ∧ IsWr w' (some ⟨g, 0, none⟩) ws ∧ IsWr w' a ws

theorem nil_cell (w : World) (j : Nat) (hj : j < 28) : (w.alloc (.cells #[.slice none 0 0, .slice none 0 0, .slice none 0 0, .slice none 0 0, .slice none 0 0, .slice none 0 0, .slice none 0 0, .slice none 0 0, .slice none 0 0, .slice none 0 0, .slice none 0 0, .slice none 0 0, .slice none 0 0, .slice none 0 0, .slice none 0 0, .slice none 0 0, .slice none 0 0, .slice none 0 0, .slice none 0 0, .slice none 0 0, .slice none 0 0, .slice none 0 0, .slice none 0 0, .slice none 0 0, .slice none 0 0, .slice none 0 0, .slice none 0 0, .slice none 0 0] 42)).cell? ⟨w.heap.size, j, none⟩ = some (.slice none 0 0) := by
  rw [World.cell?_alloc_at _ _ _ _ rfl]
  rcases (show j = 0 ∨ j = 1 ∨ j = 2 ∨ j = 3 ∨ j = 4 ∨ j = 5 ∨ j = 6 ∨ j = 7 ∨ j = 8 ∨ j = 9 ∨ j = 10 ∨ j = 11 ∨ j = 12 ∨ j = 13 ∨ j = 14 ∨ j = 15 ∨ j = 16 ∨ j = 17 ∨ j = 18 ∨ j = 19 ∨ j = 20 ∨ j = 21 ∨ j = 22 ∨ j = 23 ∨ j = 24 ∨ j = 25 ∨ j = 26 ∨ j = 27 by omega) with rfl | rfl | rfl | rfl | rfl | rfl | rfl | rfl | rfl | rfl | rfl | rfl | rfl | rfl | rfl | rfl | rfl | rfl | rfl | rfl | rfl | rfl | rfl | rfl | rfl | rfl | rfl | rfl
  all_goals rfl

set_option maxHeartbeats 1000000 in
theorem writes_fresh (a : Option Addr) (cap : Nat) (ws : List Wr) (w : World) (h : IsWr w a ws) (hn : a = none → cap = 0) (hl : ws.length ≤ 100000) :
    Calls Try.prog 77 #[.pointer (some ⟨w.heap.size, 0, none⟩), .slice a ws.length cap] (w.alloc (.cells #[.slice none 0 0, .slice none 0 0, .slice none 0 0, .slice none 0 0, .slice none 0 0, .slice none 0 0, .slice none 0 0, .slice none 0 0, .slice none 0 0, .slice none 0 0, .slice none 0 0, .slice none 0 0, .slice none 0 0, .slice none 0 0, .slice none 0 0, .slice none 0 0, .slice none 0 0, .slice none 0 0, .slice none 0 0, .slice none 0 0, .slice none 0 0, .slice none 0 0, .slice none 0 0, .slice none 0 0, .slice none 0 0, .slice none 0 0, .slice none 0 0, .slice none 0 0] 42)) fun e w' =>
      ∃ g, e = .returned (.slice (some ⟨g, 0, none⟩) ws.length (ws.length + 40)) ∧ Fresh w w' g a ws := by
  have HC : Hid (∀ j, j < 28 → (w.alloc (.cells #[.slice none 0 0, .slice none 0 0, .slice none 0 0, .slice none 0 0, .slice none 0 0, .slice none 0 0, .slice none 0 0, .slice none 0 0, .slice none 0 0, .slice none 0 0, .slice none 0 0, .slice none 0 0, .slice none 0 0, .slice none 0 0, .slice none 0 0, .slice none 0 0, .slice none 0 0, .slice none 0 0, .slice none 0 0, .slice none 0 0, .slice none 0 0, .slice none 0 0, .slice none 0 0, .slice none 0 0, .slice none 0 0, .slice none 0 0, .slice none 0 0, .slice none 0 0] 42)).cell? ⟨w.heap.size, j, none⟩ = some (.slice none 0 0)) := fun j hj => nil_cell w j hj
  have HF : Hid (∀ j, (w.alloc (.cells #[.slice none 0 0, .slice none 0 0, .slice none 0 0, .slice none 0 0, .slice none 0 0, .slice none 0 0, .slice none 0 0, .slice none 0 0, .slice none 0 0, .slice none 0 0, .slice none 0 0, .slice none 0 0, .slice none 0 0, .slice none 0 0, .slice none 0 0, .slice none 0 0, .slice none 0 0, .slice none 0 0, .slice none 0 0, .slice none 0 0, .slice none 0 0, .slice none 0 0, .slice none 0 0, .slice none 0 0, .slice none 0 0, .slice none 0 0, .slice none 0 0, .slice none 0 0] 42)).frozen? ⟨w.heap.size, j, none⟩ = false) := fun j => World.frozen?_alloc_at _ _ _ _ rfl
  have HB : Hid (Below w.heap.size w (w.alloc (.cells #[.slice none 0 0, .slice none 0 0, .slice none 0 0, .slice none 0 0, .slice none 0 0, .slice none 0 0, .slice none 0 0, .slice none 0 0, .slice none 0 0, .slice none 0 0, .slice none 0 0, .slice none 0 0, .slice none 0 0, .slice none 0 0, .slice none 0 0, .slice none 0 0, .slice none 0 0, .slice none 0 0, .slice none 0 0, .slice none 0 0, .slice none 0 0, .slice none 0 0, .slice none 0 0, .slice none 0 0, .slice none 0 0, .slice none 0 0, .slice none 0 0, .slice none 0 0] 42))) := (Below.refl _ _).alloc (Nat.le_refl _) _
  have HZ : Hid ((w.alloc (.cells #[.slice none 0 0, .slice none 0 0, .slice none 0 0, .slice none 0 0, .slice none 0 0, .slice none 0 0, .slice none 0 0, .slice none 0 0, .slice none 0 0, .slice none 0 0, .slice none 0 0, .slice none 0 0, .slice none 0 0, .slice none 0 0, .slice none 0 0, .slice none 0 0, .slice none 0 0, .slice none 0 0, .slice none 0 0, .slice none 0 0, .slice none 0 0, .slice none 0 0, .slice none 0 0, .slice none 0 0, .slice none 0 0, .slice none 0 0, .slice none 0 0, .slice none 0 0] 42)).heap.size = w.heap.size + 1) := by show _ = _; simp
  generalize (w.alloc (.cells #[.slice none 0 0, .slice none 0 0, .slice none 0 0, .slice none 0 0, .slice none 0 0, .slice none 0 0, .slice none 0 0, .slice none 0 0, .slice none 0 0, .slice none 0 0, .slice none 0 0, .slice none 0 0, .slice none 0 0, .slice none 0 0, .slice none 0 0, .slice none 0 0, .slice none 0 0, .slice none 0 0, .slice none 0 0, .slice none 0 0, .slice none 0 0, .slice none 0 0, .slice none 0 0, .slice none 0 0, .slice none 0 0, .slice none 0 0, .slice none 0 0, .slice none 0 0] 42)) = W at *
  have HW : Hid (IsWr w a ws) := h
  have HN : Hid (a = none → cap = 0) := hn
  clear h hn
  go_enter Try.func77, Try.ntmps77
  go_wp2_with fail
  refine (layWrites_any w.heap.size a cap ws 40 _ (by rw [HZ.out]; omega) (by omega) (by omega) HN.out (HW.out.below HB.out) (by omega) (HC.out 12 (by omega)) (HC.out 13 (by omega)) (HF.out 12) (HF.out 13)).mono ?_
  rintro e w' ⟨g, rfl, hroom, hgr, hcs⟩
  go_wp2
  go_ret
  refine ⟨g, rfl, hroom, fun j hj hne => (hcs j hne.1 hne.2).trans (HC.out j hj), ?_, IsWr_of_room hroom HW.out.2.1 HW.out.2.2, ⟨fun hne => ?_, HW.out.2⟩⟩
  · refine HB.out.trans ⟨hgr.os, hgr.tape, hgr.output, hgr.size, fun i hi => hgr.block i (by rw [HZ.out]; omega) (by simp; omega)⟩
  · obtain ⟨b, off, e, hr⟩ := HW.out.1 hne
    exact ⟨b, off, e, WrRow_grown (hr.below HB.out hr.1) hgr (by have := hr.1; omega)⟩

end Room
end Go.Proofs.Ytcioaoanhmpdkaa
namespace Go.Proofs.Ytcioaoanhmpdkaa
namespace Sam6
open Go.RowKit KMath Cmp Ent Chk
set_option linter.unusedVariables false

set_option maxHeartbeats 1000000 in
theorem sameWrites_any (a b : Option Addr) (ca cb : Nat) (ws : List Wr) (w : World) (ha : IsWr w a ws) (hb : IsWr w b ws) :
    Calls Try.prog 79 #[.slice a ws.length ca, .slice b ws.length cb] w fun e w' => e = .returned (.bool true) ∧ ∃ n, w' = w.drewN n := by
  obtain ⟨hrowa, hlen, _⟩ := ha
  obtain ⟨hrowb, _, _⟩ := hb
  unfold maxLen at hlen
  have HA : Hid (ws ≠ [] → ∃ b off, a = some ⟨b, off, none⟩ ∧ WrRow w b off ws) := hrowa
  have HB : Hid (ws ≠ [] → ∃ b' off, b = some ⟨b', off, none⟩ ∧ WrRow w b' off ws) := hrowb
  clear hrowa hrowb
  go_enter Try.func79, Try.ntmps79
  go_wp2
  go_loopw [5] (fun i wr => ∃ k n : Nat, k ≤ ws.length ∧ i = .int .i64 k ∧ wr = w.drewN n) (fun i _ => ws.length - (intOf i).toNat)
  case atStart => exact ⟨0, 0, Nat.zero_le _, rfl, rfl⟩
  case round =>
    obtain ⟨k, n, hk, rfl, rfl⟩ := hrel
    by_cases hlt : k < ws.length
    · have hne : ws ≠ [] := by intro e; rw [e] at hlt; simp at hlt
      obtain ⟨b1, o1, rfl, hr1⟩ := HA.out hne
      obtain ⟨b2, o2, rfl, hr2⟩ := HB.out hne
      obtain ⟨kk, dd, vv, hx⟩ : ∃ kk dd vv, ws[k]? = some (kk, dd, vv) := ⟨_, _, _, List.getElem?_eq_getElem hlt⟩
      obtain ⟨c0, c1, c2⟩ := hr1.2 k _ hx
      obtain ⟨e0, e1, e2⟩ := hr2.2 k _ hx
      dsimp only at c0 c1 c2 e0 e1 e2
      have q1 : (k : Int) < (ws.length : Int) := by omega
      clear hx hne
      go_wp2
      go_quiet (fail)
      go_wp2
      go_roundw
      case rel => exact ⟨k + 1, _, by omega, by go_num, rfl⟩
      case measure => simp [intOf]; omega
    · go_wp2
      go_ret
      exact ⟨rfl, _, rfl⟩

end Sam6
end Go.Proofs.Ytcioaoanhmpdkaa
