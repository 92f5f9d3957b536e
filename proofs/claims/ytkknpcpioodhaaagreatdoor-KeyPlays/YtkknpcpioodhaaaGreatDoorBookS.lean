import Derived.Test.YtkknpcpioodhaaaGreatDoorProg
import Derived.Test.YtkknpcpioodhaaaGreatDoorBookR
import Derived.WalkKit
import Derived.WalkSpells
import Derived.WalkLawsBesides
import Derived.Deep.RegionLaw
import Derived.Deep.DrawnRows
import Derived.Laws.Tables
namespace Go.Proofs.YtkknpcpioodhaaaGreatDoor
namespace Book
open Go.RowKit KMath Cmp Ent Chk Bat Wei Ents Laws
set_option linter.unusedVariables false
attribute [local go_sem ↓] Go.wp_at_zero Go.wp_at_succ

/-- One call of a script. -/
structure OpD where
  kind : Int
  key : ByteArray
  k1 : ByteArray
  s1 : Int
  d1 : Bool
  v1 : ByteArray
  k2 : ByteArray
  s2 : Int
  d2 : Bool
  v2 : ByteArray
  first : Int
  aL : Option Addr
  cL : Nat
  ws : List Wr
def OpCells (w : World) (b off : Nat) (p : OpD) : Prop :=
  w.cell? ⟨b, off, none⟩ = some (.int .i64 p.kind) ∧ w.cell? ⟨b, off + 1, none⟩ = some (.string p.key) ∧ w.cell? ⟨b, off + 2, none⟩ = some (.string p.k1) ∧ w.cell? ⟨b, off + 3, none⟩ = some (.int .u64 p.s1) ∧ w.cell? ⟨b, off + 4, none⟩ = some (.bool p.d1) ∧ w.cell? ⟨b, off + 5, none⟩ = some (.string p.v1) ∧ w.cell? ⟨b, off + 6, none⟩ = some (.string p.k2) ∧ w.cell? ⟨b, off + 7, none⟩ = some (.int .u64 p.s2) ∧ w.cell? ⟨b, off + 8, none⟩ = some (.bool p.d2) ∧ w.cell? ⟨b, off + 9, none⟩ = some (.string p.v2) ∧ w.cell? ⟨b, off + 10, none⟩ = some (.int .u64 p.first) ∧ w.cell? ⟨b, off + 11, none⟩ = some (.slice p.aL p.ws.length p.cL)
def IsOp (w : World) (p : OpD) : Prop := IsWr w p.aL p.ws ∧ (p.aL = none → p.cL = 0) ∧ p.key.size ≤ maxLen ∧ p.k1.size ≤ maxLen ∧ p.k2.size ≤ maxLen
/-- A script in memory. -/
def IsOps (w : World) (a : Option Addr) (ps : List OpD) : Prop :=
  (ps ≠ [] → ∃ b off, a = some ⟨b, off, none⟩ ∧ b < w.heap.size ∧ ∀ (i : Nat) (p : OpD), ps[i]? = some p → OpCells w b (off + i * 12) p ∧ IsOp w p) ∧ ps.length ≤ maxLen

/-- A book in which nothing is. -/
def bookZ : Array Value := ((List.range 175).map f0).toArray
set_option maxRecDepth 100000 in
theorem built_book : Tryz.prog.built 45 [] = some bookZ := by kernel_rfl
theorem wpList_book {ops : Array Oper} {rest : List Oper} {o : Oper} {a : Act} {w : World} {Q : Exit → Act → World → Prop} (hg : o.guard = none) (ho : o.op = .build 45 #[])
    (h : wpList Tryz.prog ops Q rest (a.put o.dst (.agg bookZ)) w) : wpList Tryz.prog ops Q (o :: rest) a w := by
  have e0 : ((#[] : Array (Nat × Operand)).map fun (i, x) => (i, a.eval x)).toList = [] := by simp
  have e : Tryz.prog.built 45 ((#[] : Array (Nat × Operand)).map fun (i, x) => (i, a.eval x)).toList = some bookZ := by rw [e0]; exact built_book
  refine wpList_build hg _ _ ho (by rw [e]; rfl) ?_
  rw [e]
  exact h

theorem bookZ_get (j : Nat) (h : j < 175) : bookZ[j]? = some (f0 j) := by
  unfold bookZ
  simp [List.getElem?_range h]
theorem kp_start (w : World) : KP w w.heap.size 0 (w.alloc (.cells bookZ 45)) (upd (fun _ => 0) w.heap.size 1) none 0 [] := by
  have hf : Fld (w.alloc (.cells bookZ 45)) w.heap.size f0 := by
    refine ⟨by simp, fun j hj => ⟨?_, ?_⟩⟩
    · have := bookZ_get j hj
      simp [go_sem, this]
    · simp [go_sem]
  refine ⟨⟨f0, fun _ => [], [], [], [], [], ⟨⟨hf, upd_same _ _ _, fun j h1 h2 => ?_⟩, fun _ _ _ _ => rfl, rfl, rfl, ⟨0, rfl⟩, rfl, ⟨0, rfl, Nat.le_refl _⟩, rfl, rfl, rfl, rfl, rfl, rfl, rfl, rfl, rfl, rfl, rfl, rfl, ?_, ?_, ?_, by simp, by omega⟩⟩, (Below.refl _ _).alloc (Nat.le_refl _) _, fun b hb => upd_other _ _ (by omega), fun b hb => ?_, World.ownsRow_nil _ _ _ _, fun b hb => by cases hb⟩
  · have e : f0 j = .slice none 0 0 := by
      unfold f0
      rw [if_neg (by omega), if_neg (by omega), if_neg (by omega)]
    rw [e]
    exact ⟨World.ownsRow_nil _ _ _ _, fun b hb => by cases hb⟩
  · intro i p hi; simp at hi
  · intro i p hi; simp at hi
  · intro p hp; simp at hp
  · simp at hb
    exact upd_other _ _ (by omega)

theorem infoW : (Tryz.prog.info? 56).map (fun i => (i.zero, i.size, i.bytes)) = some (some (.agg #[.string ⟨#[]⟩, .bool false, .string ⟨#[]⟩]), 3, 40) := by kernel_rfl
theorem own_zero {w : World} {base : Nat} {e : TypeId} {size g n cap : Nat} {xs : List Value} (h : w.ownsRow base e size (.slice (some ⟨g, 0, none⟩) n cap) n xs) : w.ownsRow base e size (.slice (some ⟨g, 0, none⟩) 0 cap) 0 [] := by
  rcases h.2 with ⟨hv, _⟩ | ⟨g', c', cur, hv, h1, h2, h3, h4, h5, _⟩
  · cases hv
  · cases hv
    exact ⟨by simp, .inr ⟨g, cap, cur, rfl, h1, h2, Nat.zero_le _, h4, h5, by simp⟩⟩
/-- step_appV onto a list that was cut to nothing. -/
theorem step_app0 {P : Program} (w : World) {ops : Array Oper} {o : Oper} {a : Act} {K : Act → World → Prop} {Q : Exit → Act → World → Prop} {E : Prop} (hgd : o.guard = none) (s x : Operand) (t : TypeId)
    (ho : o.op = .call { callee := .builtin .append, args := #[s, x], argTypes := #[t, t] })
    (base : Nat) (e : TypeId) (i : TypeInfo) (z : Value) (size bytes : Nat) (ht : P.underlying t = some (.slice e)) (hi : P.info? e = some i) (hz : i.zero = some z)
    (hsize : i.size = size) (hby : i.bytes = bytes) (hzs : z.cells.size = size) (hsz : 0 < size)
    (v : Value) (hs : a.eval s = v) (hown : w.ownsRow base e size v 0 [])
    (ao : Option Addr) (m c : Nat) (hn : ao = none → m = 0 ∧ c = 0) (news : List Value) (hx : a.eval x = .slice ao m c) (hl : news.length = m * size) (hnews : ∀ ad, ao = some ad → ∀ j u, news[j]? = some u → w.cell? (ad.add j) = some u) (h1 : ∀ u ∈ news, u.oneCell' = true)
    (h63 : m ≤ maxLen) (hbytes : m * bytes ≤ 140737488355328) (hbase : base ≤ w.heap.size)
    (h : ∀ av cv w', w'.ownsRow base e size (.slice av m cv) m news → w.grownBy w' v.ownBlock → ((Value.slice av m cv).ownBlock = v.ownBlock ∨ (Value.slice av m cv).ownBlock = some w.heap.size) → K (a.put o.dst (.slice av m cv)) w') :
    if Region.wanted o (yielded ops a.tmps) = true then Oper.wp P o a w K Q else E :=
  step_appV w hgd s x t ho base e i z size bytes ht hi hz hsize hby hzs hsz v 0 [] hs hown ao m c hn news hx hl hnews h1 (by omega) (by rw [Nat.zero_add]; exact hbytes) hbase (by simpa using h)

/-- The cells of the call that is played. -/
def BoxC (w : World) (b : Nat) (p : OpD) : Prop :=
  w.cell? ⟨b, 0, none⟩ = some (.int .i64 p.kind) ∧ w.cell? ⟨b, 1, none⟩ = some (.string p.key) ∧ w.cell? ⟨b, 2, none⟩ = some (.string p.k1) ∧ w.cell? ⟨b, 3, none⟩ = some (.int .u64 p.s1) ∧ w.cell? ⟨b, 4, none⟩ = some (.bool p.d1) ∧ w.cell? ⟨b, 5, none⟩ = some (.string p.v1) ∧ w.cell? ⟨b, 6, none⟩ = some (.string p.k2) ∧ w.cell? ⟨b, 7, none⟩ = some (.int .u64 p.s2) ∧ w.cell? ⟨b, 8, none⟩ = some (.bool p.d2) ∧ w.cell? ⟨b, 9, none⟩ = some (.string p.v2) ∧ w.cell? ⟨b, 10, none⟩ = some (.int .u64 p.first) ∧ w.cell? ⟨b, 11, none⟩ = some (.slice p.aL p.ws.length p.cL)
theorem BoxC.block {w w' : World} {b : Nat} {p : OpD} (h : BoxC w b p) (hb : w'.heap[b]? = w.heap[b]?) : BoxC w' b p := by
  have e : ∀ j, w'.cell? ⟨b, j, none⟩ = w.cell? ⟨b, j, none⟩ := fun j => World.cell?_of_block (a := ⟨b, j, none⟩) hb
  unfold BoxC
  simp only [e]
  exact h
theorem box_new (w : World) (p : OpD) : BoxC (w.alloc (.cells #[.int .i64 p.kind, .string p.key, .string p.k1, .int .u64 p.s1, .bool p.d1, .string p.v1, .string p.k2, .int .u64 p.s2, .bool p.d2, .string p.v2, .int .u64 p.first, .slice p.aL p.ws.length p.cL] 51)) w.heap.size p := by
  unfold BoxC
  simp [go_sem]
theorem KP.wr {w : World} {K N : Nat} {wr : World} {T : Nat → Nat} {au : Option Addr} {cu : Nat} {us : List Wr} (h : KP w K N wr T au cu us) (hs : ∀ x ∈ us, x.1.size ≤ maxLen ∧ x.2.2.size ≤ maxLen) (hl : us.length ≤ maxLen) : IsWr wr au us := own_wr h.own hs hl
/-- The state, with the call that is played. -/
def KB (w : World) (K N : Nat) (wr : World) (B : Nat) (p : OpD) (av : Option Addr) (cv : Nat) (us : List Wr) : Prop := ∃ T, KP w K N wr T av cv us ∧ BoxC wr B p ∧ T B = 0 ∧ B < wr.heap.size
theorem KB.below {w : World} {K N : Nat} {wr w' : World} {B : Nat} {p : OpD} {av : Option Addr} {cv : Nat} {us : List Wr} (h : KB w K N wr B p av cv us) (hb : Below wr.heap.size wr w') : KB w K N w' B p av cv us := by
  obtain ⟨T, h1, h2, h3, h4⟩ := h
  exact ⟨T, h1.below hb, h2.block (hb.block B h4), h3, Nat.lt_of_lt_of_le h4 hb.size⟩
theorem KB.past {w : World} {K N : Nat} {wr w' : World} {T T' : Nat → Nat} {B : Nat} {p : OpD} {av : Option Addr} {cv : Nat} {us : List Wr} (h1 : KP w K N wr T av cv us) (h2 : BoxC wr B p) (h3 : T B = 0) (h4 : B < wr.heap.size) (hI : ∃ f L o x M D, Inv T' w' K f L o x M D (N + 1)) (hp : Past 9000000 T wr T' w') : KB w K (N + 1) w' B p av cv us :=
  ⟨_, h1.past hI hp, h2.block (hp.block B h4 (.inl h3)).1, by rw [norm_in _ _ (Nat.lt_of_lt_of_le h4 hp.size), (hp.block B h4 (.inl h3)).2, h3], Nat.lt_of_lt_of_le h4 hp.size⟩
theorem KB.held {w : World} {K N : Nat} {wr : World} {B : Nat} {p : OpD} {av : Option Addr} {cv : Nat} {us : List Wr} (h : KB w K N wr B p av cv us) : ∃ f o x, Held wr K f o x := by
  obtain ⟨T, h1, _⟩ := h
  exact h1.held
theorem KB.wr {w : World} {K N : Nat} {wr : World} {B : Nat} {p : OpD} {av : Option Addr} {cv : Nat} {us : List Wr} (h : KB w K N wr B p av cv us) (hs : ∀ x ∈ us, x.1.size ≤ maxLen ∧ x.2.2.size ≤ maxLen) (hl : us.length ≤ maxLen) : IsWr wr av us := by
  obtain ⟨T, h1, _⟩ := h
  exact h1.wr hs hl
theorem KB.base {w : World} {K N : Nat} {wr : World} {B : Nat} {p : OpD} {av : Option Addr} {cv : Nat} {us : List Wr} (h : KB w K N wr B p av cv us) : Below w.heap.size w wr := by
  obtain ⟨T, h1, _⟩ := h
  exact h1.base
theorem KB.last {w : World} {K N : Nat} {wr : World} {B : Nat} {p : OpD} {av : Option Addr} {cv : Nat} {us : List Wr} (h : KB w K N wr B p av cv us) : wr.cell? ⟨B, 11, none⟩ = some (.slice p.aL p.ws.length p.cL) := by
  obtain ⟨T, _, h2, _⟩ := h
  exact h2.2.2.2.2.2.2.2.2.2.2.2
theorem KB.lent {w : World} {K N : Nat} {wo w' : World} {T : Nat → Nat} {au av : Option Addr} {cu cv : Nat} {us ws : List Wr} {o : Obj} {p : OpD} (h : KP w K N wo T au cu us) (hbox : BoxC (wo.alloc o) wo.heap.size p)
    (hgr : (wo.alloc o).drew.grownBy w' (Value.slice au us.length cu).ownBlock)
    (hown : w'.ownsRow w.heap.size 56 3 (.slice av ws.length cv) ws.length (cellsW ws)) (hat : (Value.slice av ws.length cv).ownBlock = (Value.slice au us.length cu).ownBlock ∨ (Value.slice av ws.length cv).ownBlock = some (wo.alloc o).drew.heap.size) : KB w K N w' wo.heap.size p av cv ws := by
  have h1 : KP w K N (wo.alloc o) T au cu us := h.below ((Below.refl _ _).alloc (Nat.le_refl _) _)
  refine ⟨T, h1.lent (Keep.drew [] _) hgr hown hat, hbox.block (hgr.block _ (by simp) (fun e => ?_)), h.high _ (Nat.le_refl _), Nat.lt_of_lt_of_le (by simp) hgr.size⟩
  have := (h.own.lt _ e.symm).2
  omega

set_option maxRecDepth 100000 in
set_option maxHeartbeats 8000000 in
theorem keyPlays_any (a : Option Addr) (cap : Nat) (ps : List OpD) (w : World) (h : IsOps w a ps) :
    Calls Tryz.prog 3 #[.slice a ps.length cap] w fun e w' => e = .returned (.bool true) ∧ Below w.heap.size w w' := by
  have HS : Hid (IsOps w a ps) := h
  obtain ⟨iW, hiW, hw0, hw1, hw2⟩ := info_parts infoW
  have hpl := h.2
  unfold maxLen at hpl
  clear h
  go_enter Tryz.func3, Tryz.ntmps3
  go_wp2_with (refine wpList_book (by rfl) (by rfl) ?_)
  have HST : Hid (KP w w.heap.size 0 (w.alloc (.cells bookZ 45)) (upd (fun _ => 0) w.heap.size 1) none 0 []) := kp_start w
  go_loopw [4, 5, 6, 7, 8] (fun u i _ _ _ wr => ∃ k : Nat, k ≤ ps.length ∧ k ≤ 40 ∧ i = .int .i64 k ∧ ∃ T au cu us, u = .slice au us.length cu ∧ us.length ≤ 64 ∧ KP w w.heap.size (3 * k) wr T au cu us) (fun _ i _ _ _ _ => ps.length - (intOf i).toNat)
  case atStart => exact ⟨0, Nat.zero_le _, by omega, rfl, _, none, 0, [], rfl, by simp, HST.out⟩
  case round =>
    clear HST
    rename World => wo
    obtain ⟨k, hk, hk40, rfl, T, au, cu, us, rfl, hus, hkp⟩ := hrel
    have HKP : Hid (KP w w.heap.size (3 * k) wo T au cu us) := hkp
    by_cases hlt : k < ps.length ∧ k < 40
    · obtain ⟨hk1, hk2⟩ := hlt
      obtain ⟨b, off, rfl, hbz, hrow⟩ := HS.out.1 (by intro e; rw [e] at hk1; simp at hk1)
      obtain ⟨p, hp⟩ : ∃ p, ps[k]? = some p := ⟨_, List.getElem?_eq_getElem hk1⟩
      obtain ⟨hcells, hop⟩ := hrow k p hp
      obtain ⟨kind, key, k1, s1, d1, v1, k2, s2, d2, v2, first, aL, cL, ws⟩ := p
      obtain ⟨c0, c1, c2, c3, c4, c5, c6, c7, c8, c9, c10, c11⟩ := hcells
      have tr : ∀ j, wo.cell? ⟨b, j, none⟩ = w.cell? ⟨b, j, none⟩ := fun j => hkp.base.cell (p := ⟨b, j, none⟩) hbz
      simp only at c0 c1 c2 c3 c4 c5 c6 c7 c8 c9 c10 c11
      rw [← tr] at c0 c1 c2 c3 c4 c5 c6 c7 c8 c9 c10 c11
      have HOP : Hid (IsOp w ⟨kind, key, k1, s1, d1, v1, k2, s2, d2, v2, first, aL, cL, ws⟩) := hop
      have hbz' : b < wo.heap.size := Nat.lt_of_lt_of_le hbz hkp.base.size
      have x1 : (k : Int) < (ps.length : Int) := by omega
      have x0 : (0 : Int) ≤ (k : Int) := by omega
      have x2 : (k : Int) < 40 := by omega
      clear hrow tr hop hp hkp
      by_cases h64 : 64 < ws.length
      · have x3 : (64 : Int) < (ws.length : Int) := by omega
        go_wp2
        go_ret
        exact ⟨rfl, HKP.out.base.alloc HKP.out.base.size _⟩
      · have x3 : ¬ (64 : Int) < (ws.length : Int) := by omega
        go_wp2
        have HZ : Hid (ws.length ≤ 64) := by have : ws.length ≤ 64 := by omega
                                             exact this
        have HBX : Hid (BoxC (wo.alloc (.cells #[.int .i64 kind, .string key, .string k1, .int .u64 s1, .bool d1, .string v1, .string k2, .int .u64 s2, .bool d2, .string v2, .int .u64 first, .slice aL ws.length cL] 51)) wo.heap.size ⟨kind, key, k1, s1, d1, v1, k2, s2, d2, v2, first, aL, cL, ws⟩) := box_new wo ⟨kind, key, k1, s1, d1, v1, k2, s2, d2, v2, first, aL, cL, ws⟩
        have HWR : Hid (IsWr (wo.alloc (.cells #[.int .i64 kind, .string key, .string k1, .int .u64 s1, .bool d1, .string v1, .string k2, .int .u64 s2, .bool d2, .string v2, .int .u64 first, .slice aL ws.length cL] 51)) aL ws) := HOP.out.1.below (HKP.out.base.alloc HKP.out.base.size _)
        have HNL : Hid (aL = none → ws.length = 0 ∧ cL = 0) := fun e => by
          refine ⟨?_, HOP.out.2.1 e⟩
          rcases Nat.eq_zero_or_pos ws.length with h0 | h0
          · exact h0
          · obtain ⟨b', off', e', _⟩ := HOP.out.1.1 (by intro e2; have e3 : ws = [] := e2; rw [e3] at h0; simp at h0)
            rw [e] at e'; cases e'
        have HBS : Hid (w.heap.size ≤ wo.heap.size) := HKP.out.base.size
        have hsh : (au = none ∧ us.length = 0 ∧ cu = 0) ∨ ∃ g, au = some ⟨g, 0, none⟩ := by
          rcases HKP.out.own.2 with ⟨hv, h0⟩ | ⟨g, c, cur, hv, _⟩
          · simp at hv; exact .inl ⟨hv.1, h0, hv.2.2⟩
          · cases hv; exact .inr ⟨g, rfl⟩
        clear c0 c1 c2 c3 c4 c5 c6 c7 c8 c9 c10 c11
        rcases hsh with ⟨rfl, hu0, rfl⟩ | ⟨g, rfl⟩
        all_goals first
          | go_region_law (refine step_app0 _ (by rfl) (.tmp 30) (.tmp 32) 46 (by rfl) w.heap.size 56 iW _ 3 40 Tryz.underlying46 hiW hw0 hw1 hw2 rfl (by omega) (.slice none 0 0) (by rfl) (World.ownsRow_nil _ _ _ _) aL ws.length cL HNL.out (cellsW ws) (by rfl) (cellsW_length _) (news_of HWR.out) (cellsW_one _) (by have := HZ.out; unfold maxLen; omega) (by have := HZ.out; omega) (by have := HBS.out; simp; omega) ?_; intro av cv w9 hown9 hgr9 hat9; have HK9 : Hid (KB w w.heap.size (3 * k) w9 wo.heap.size ⟨kind, key, k1, s1, d1, v1, k2, s2, d2, v2, first, aL, cL, ws⟩ av cv ws) := KB.lent HKP.out HBX.out hgr9 hown9 hat9; clear hown9 hgr9 hat9)
          | go_region_law (refine step_app0 _ (by rfl) (.tmp 30) (.tmp 32) 46 (by rfl) w.heap.size 56 iW _ 3 40 Tryz.underlying46 hiW hw0 hw1 hw2 rfl (by omega) (.slice (some ⟨g, 0, none⟩) 0 cu) (by rfl) (own_zero (HKP.out.own.alloc _)) aL ws.length cL HNL.out (cellsW ws) (by rfl) (cellsW_length _) (news_of HWR.out) (cellsW_one _) (by have := HZ.out; unfold maxLen; omega) (by have := HZ.out; omega) (by have := HBS.out; simp; omega) ?_; intro av cv w9 hown9 hgr9 hat9; have HK9 : Hid (KB w w.heap.size (3 * k) w9 wo.heap.size ⟨kind, key, k1, s1, d1, v1, k2, s2, d2, v2, first, aL, cL, ws⟩ av cv ws) := KB.lent HKP.out HBX.out hgr9 hown9 hat9; clear hown9 hgr9 hat9)
        all_goals
          clear HWR HBX HNL HBS HKP hus
          go_wp2
          go_loopw [7] (fun n wi => ∃ j : Nat, j ≤ 3 ∧ n = .int .i64 j ∧ KB w w.heap.size (3 * k + j) wi wo.heap.size ⟨kind, key, k1, s1, d1, v1, k2, s2, d2, v2, first, aL, cL, ws⟩ av cv ws) (fun n _ => 3 - (intOf n).toNat)
          case atStart => exact ⟨0, by omega, rfl, HK9.out⟩
          case round =>
            clear HK9
            rename World => wi
            obtain ⟨j, hj, rfl, hkb⟩ := hrel
            have HKB : Hid (KB w w.heap.size (3 * k + j) wi wo.heap.size ⟨kind, key, k1, s1, d1, v1, k2, s2, d2, v2, first, aL, cL, ws⟩ av cv ws) := hkb
            by_cases hj3 : j < 3
            · obtain ⟨T', hkp', hbox, htB, hBz⟩ := hkb
              obtain ⟨f, L, o, x, M, D, hI⟩ := hkp'.inv
              have HI : Hid (Inv T' wi w.heap.size f L o x M D (3 * k + j)) := hI
              have HKP' : Hid (KP w w.heap.size (3 * k + j) wi T' av cv ws) := hkp'
              have HBOX : Hid (BoxC wi wo.heap.size ⟨kind, key, k1, s1, d1, v1, k2, s2, d2, v2, first, aL, cL, ws⟩) := hbox
              have HTB : Hid (T' wo.heap.size = 0 ∧ wo.heap.size < wi.heap.size) := ⟨htB, hBz⟩
              obtain ⟨c0, c1, c2, c3, c4, c5, c6, c7, c8, c9, c10, c11⟩ := hbox
              simp only at c0 c1 c2 c3 c4 c5 c6 c7 c8 c9 c10 c11
              have y1 : (j : Int) < 3 := by omega
              clear hI hkp' htB
              go_wp2_with (first
                | (go_at_call 4; refine (plays_any T' wi w.heap.size f L o x M D (3 * k + j) HI.out (by omega) kind key k1 s1 d1 v1 k2 s2 d2 v2 first aL av cv cL ws (HKP'.out.wr HOP.out.1.2.2 HOP.out.1.2.1) (HOP.out.1.below HKP'.out.base) HZ.out HOP.out.2.2.1 HOP.out.2.2.2.1 HOP.out.2.2.2.2 _).mono ?_; rintro e w2 ⟨rfl, T2, f2, L2, o2, x2, M2, D2, hI2, hp2⟩; have HK2 : Hid (KB w w.heap.size (3 * k + j + 1) w2 wo.heap.size ⟨kind, key, k1, s1, d1, v1, k2, s2, d2, v2, first, aL, cL, ws⟩ av cv ws) := KB.past HKP'.out HBOX.out HTB.out.1 HTB.out.2 ⟨f2, L2, o2, x2, M2, D2, hI2⟩ hp2; have e11 : w2.cell? ⟨wo.heap.size, 11, none⟩ = some (.slice aL ws.length cL) := HK2.out.last; clear hI2 hp2)
                | (go_at_call 5; refine (Same.sameWrites_any av aL cv cL ws _ (HK2.out.wr HOP.out.1.2.2 HOP.out.1.2.1) (HOP.out.1.below HK2.out.base)).mono ?_; rintro e w3 ⟨rfl, nd, hw3⟩; have hb3 : Below w2.heap.size w2 w3 := (by rw [hw3]; exact below_drewN (Below.refl _ _) nd); have HK3 : Hid (KB w w.heap.size (3 * k + j + 1) w3 wo.heap.size ⟨kind, key, k1, s1, d1, v1, k2, s2, d2, v2, first, aL, cL, ws⟩ av cv ws) := HK2.out.below hb3; clear hw3 hb3)
                | (go_at_call 6; obtain ⟨f4, o4, x4, hh4⟩ := HK3.out.held; refine (hold_any w.heap.size f4 o4 x4 _ hh4).mono ?_; rintro e w4 ⟨rfl, hb4⟩; have HK4 : Hid (KB w w.heap.size (3 * k + j + 1) w4 wo.heap.size ⟨kind, key, k1, s1, d1, v1, k2, s2, d2, v2, first, aL, cL, ws⟩ av cv ws) := HK3.out.below hb4; clear hb4 hh4))
              go_roundw
              case rel => exact ⟨j + 1, by omega, by go_num, HK4.out⟩
              case measure => simp [intOf]; omega
            · have hj' : j = 3 := by omega
              subst hj'
              clear hkb
              go_wp2
              go_loopw [8] (fun n wx => ∃ m : Nat, m ≤ ws.length ∧ n = .int .i64 m ∧ ∃ T' us', us'.length = ws.length ∧ KP w w.heap.size (3 * k + 3) wx T' av cv us') (fun n _ => ws.length - (intOf n).toNat)
              case atStart =>
                obtain ⟨T', hkp', _⟩ := HKB.out
                exact ⟨0, Nat.zero_le _, rfl, T', ws, rfl, hkp'⟩
              case round =>
                clear HKB
                rename World => wx
                obtain ⟨m, hm, rfl, T', us', hul, hkp'⟩ := hrel
                have HKP' : Hid (KP w w.heap.size (3 * k + 3) wx T' av cv us') := hkp'
                have HUL : Hid (us'.length = ws.length) := hul
                by_cases hml : m < ws.length
                · obtain ⟨g2, rfl⟩ : ∃ g2, av = some ⟨g2, 0, none⟩ := by
                    rcases hkp'.own.2 with ⟨_, h0⟩ | ⟨g2, c, cur, hv, _⟩
                    · omega
                    · cases hv; exact ⟨g2, rfl⟩
                  obtain ⟨kk, dd, vv, hx⟩ : ∃ kk dd vv, us'[m]? = some (kk, dd, vv) := ⟨_, _, _, List.getElem?_eq_getElem (by omega)⟩
                  obtain ⟨b0, b1, b2⟩ := cellsW_get us' m _ hx
                  have e0 : wx.cell? ⟨g2, m * 3, none⟩ = some (.string kk) := by rw [hkp'.own.cellAt _ (by omega)]; exact b0
                  have e1 : wx.cell? ⟨g2, m * 3 + 1, none⟩ = some (.bool dd) := by rw [hkp'.own.cellAt _ (by omega)]; exact b1
                  have e2 : wx.cell? ⟨g2, m * 3 + 2, none⟩ = some (.string vv) := by rw [hkp'.own.cellAt _ (by omega)]; exact b2
                  have f0 : wx.frozen? ⟨g2, m * 3, none⟩ = false := hkp'.own.frozenAt _
                  have f1 : wx.frozen? ⟨g2, m * 3 + 1, none⟩ = false := hkp'.own.frozenAt _
                  have f2 : wx.frozen? ⟨g2, m * 3 + 2, none⟩ = false := hkp'.own.frozenAt _
                  have hg2 := (hkp'.own.lt g2 rfl).2
                  have y1 : (m : Int) < (ws.length : Int) := by omega
                  have y0 : (0 : Int) ≤ (m : Int) := by omega
                  clear hx b0 b1 b2 hkp' hul
                  go_wp2
                  go_roundw
                  case rel => exact ⟨m + 1, by omega, by go_num, T', _, by rw [List.length_set]; exact HUL.out, HKP'.out.store (by rw [HUL.out]; exact hml)⟩
                  case measure => simp [intOf]; omega
                · obtain ⟨f4, o4, x4, hh4⟩ := hkp'.held
                  have HH4 : Hid (Held wx w.heap.size f4 o4 x4) := hh4
                  clear hh4 hkp' hul
                  go_wp2_with (go_at_call 6; refine (hold_any w.heap.size f4 o4 x4 _ HH4.out).mono ?_; rintro e w4 ⟨rfl, hb4⟩; have HK4 : Hid (KP w w.heap.size (3 * k + 3) w4 T' av cv us') := HKP'.out.below hb4; clear hb4)
                  go_roundw
                  case rel => exact ⟨k + 1, by omega, by omega, by go_num, T', av, cv, us', by rw [HUL.out], by rw [HUL.out]; exact HZ.out, HK4.out⟩
                  case measure => simp [intOf]; omega
    · by_cases hk1 : k < ps.length
      · have x1 : (k : Int) < (ps.length : Int) := by omega
        have x2 : ¬ (k : Int) < 40 := by omega
        clear hkp
        go_wp2
        go_ret
        exact ⟨rfl, HKP.out.base⟩
      · have x1 : ¬ (k : Int) < (ps.length : Int) := by omega
        clear hkp
        go_wp2
        go_ret
        exact ⟨rfl, HKP.out.base⟩

end Book
end Go.Proofs.YtkknpcpioodhaaaGreatDoor
