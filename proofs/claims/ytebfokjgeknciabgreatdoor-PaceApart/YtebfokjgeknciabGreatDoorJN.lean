import Derived.Test.YtebfokjgeknciabGreatDoorProg
import Derived.Laws.AppendOwnNone
import Derived.Test.YtebfokjgeknciabGreatDoorJG
import Derived.WalkKit
import Derived.WalkSpells
import Derived.WalkLawsBesides
import Derived.Deep.QuietTactic
import Derived.BigQuiet
import Derived.Deep.RegionLaw
import Derived.Deep.DrawnRows
namespace Go.Proofs.YtebfokjgeknciabGreatDoor
namespace BookI
open Go.RowKit Laws Irw
set_option linter.unusedVariables false
attribute [local go_sem ↓] Go.wp_at_zero Go.wp_at_succ

/-- append of what a slice holds that may be nil onto a list of one's own that isn't nil. -/
theorem run_appO {P : Program} (w : World) (t ty : TypeId) (base : Nat) (e : TypeId) (i : TypeInfo) (z : Value) (size bytes : Nat) (ht : P.underlying t = some (.slice e)) (hi : P.info? e = some i) (hz : i.zero = some z)
    (hsize : i.size = size) (hby : i.bytes = bytes) (hzs : z.cells.size = size) (hsz : 0 < size)
    (g0 c0 n : Nat) (xs : List Value) (hown : w.ownsRow base e size (.slice (some ⟨g0, 0, none⟩) n c0) n xs)
    (ao : Option Addr) (m c : Nat) (news : List Value) (hnil : ao = none → m = 0 ∧ c = 0 ∧ news = []) (hl : news.length = m * size) (hnews : ∀ ad, ao = some ad → ∀ j u, news[j]? = some u → w.cell? (ad.add j) = some u) (h1 : ∀ u ∈ news, u.oneCell' = true)
    (h63 : n + m ≤ maxLen) (hbytes : (n + m) * bytes ≤ 140737488355328) (hbase : base ≤ w.heap.size) (H : Nat) (hH : w.heap.size = H) :
    ∃ g cap w', (Builtin.append_ #[t, t] ty #[.slice (some ⟨g0, 0, none⟩) n c0, .slice ao m c]).run P w = .ok (.slice (some ⟨g, 0, none⟩) (n + m) cap) w' ∧
      w'.ownsRow base e size (.slice (some ⟨g, 0, none⟩) (n + m) cap) (n + m) (xs ++ news) ∧ w.grownBy w' (Value.slice (some ⟨g0, 0, none⟩) n c0).ownBlock ∧ ((Value.slice (some ⟨g0, 0, none⟩) n c0).ownBlock = some g ∨ g = H) ∧ g < w'.heap.size := by
  cases ao with
  | none =>
    obtain ⟨rfl, rfl, rfl⟩ := hnil rfl
    exact ⟨g0, c0, w, run_append_owned_none (P := P) (w := w) base t ty e i size ht hi _ n xs hown, by simpa using hown, World.grownBy.refl _ _, .inl rfl, (hown.lt g0 rfl).2⟩
  | some ad => exact run_app w t ty base e i z size bytes ht hi hz hsize hby hzs hsz _ n xs hown ad m c news hl (hnews ad rfl) h1 (by intro e; cases e) h63 hbytes hbase H hH
theorem wp_appO {P : Program} (w : World) {o : Oper} {a : Act} {K : Act → World → Prop} {Q : Exit → Act → World → Prop} (s x : Operand) (t : TypeId)
    (ho : o.op = .call { callee := .builtin .append, args := #[s, x], argTypes := #[t, t] })
    (base : Nat) (e : TypeId) (i : TypeInfo) (z : Value) (size bytes : Nat) (ht : P.underlying t = some (.slice e)) (hi : P.info? e = some i) (hz : i.zero = some z)
    (hsize : i.size = size) (hby : i.bytes = bytes) (hzs : z.cells.size = size) (hsz : 0 < size)
    (g0 c0 n : Nat) (xs : List Value) (hs : a.eval s = .slice (some ⟨g0, 0, none⟩) n c0) (hown : w.ownsRow base e size (.slice (some ⟨g0, 0, none⟩) n c0) n xs)
    (ao : Option Addr) (m c : Nat) (news : List Value) (hx : a.eval x = .slice ao m c) (hnil : ao = none → m = 0 ∧ c = 0 ∧ news = []) (hl : news.length = m * size) (hnews : ∀ ad, ao = some ad → ∀ j u, news[j]? = some u → w.cell? (ad.add j) = some u) (h1 : ∀ u ∈ news, u.oneCell' = true)
    (h63 : n + m ≤ maxLen) (hbytes : (n + m) * bytes ≤ 140737488355328) (hbase : base ≤ w.heap.size) (H : Nat) (hH : w.heap.size = H)
    (h : ∀ g cap w', w'.ownsRow base e size (.slice (some ⟨g, 0, none⟩) (n + m) cap) (n + m) (xs ++ news) → w.grownBy w' (Value.slice (some ⟨g0, 0, none⟩) n c0).ownBlock → ((Value.slice (some ⟨g0, 0, none⟩) n c0).ownBlock = some g ∨ g = H) → g < w'.heap.size → K (a.put o.dst (.slice (some ⟨g, 0, none⟩) (n + m) cap)) w') : o.wp P a w K Q := by
  obtain ⟨g, cap, w', hr, h2, h3, h4, h5⟩ := run_appO (P := P) w t o.type base e i z size bytes ht hi hz hsize hby hzs hsz g0 c0 n xs hown ao m c news hnil hl hnews h1 h63 hbytes hbase H hH
  unfold Oper.wp execOp
  simp only [ho, resolve, invoke, builtin, Sem.run_bind, Sem.run_pure, Result.andThen_ok, List.map_toArray, List.map_cons, List.map_nil, hs, hx, hr]
  exact h g cap w' h2 h3 h4 h5
theorem wpList_appO {P : Program} (w : World) {ops : Array Oper} {rest : List Oper} {o : Oper} {a : Act} {Q : Exit → Act → World → Prop} (hgd : o.guard = none) (s x : Operand) (t : TypeId)
    (ho : o.op = .call { callee := .builtin .append, args := #[s, x], argTypes := #[t, t] })
    (base : Nat) (e : TypeId) (i : TypeInfo) (z : Value) (size bytes : Nat) (ht : P.underlying t = some (.slice e)) (hi : P.info? e = some i) (hz : i.zero = some z)
    (hsize : i.size = size) (hby : i.bytes = bytes) (hzs : z.cells.size = size) (hsz : 0 < size)
    (g0 c0 n : Nat) (xs : List Value) (hs : a.eval s = .slice (some ⟨g0, 0, none⟩) n c0) (hown : w.ownsRow base e size (.slice (some ⟨g0, 0, none⟩) n c0) n xs)
    (ao : Option Addr) (m c : Nat) (news : List Value) (hx : a.eval x = .slice ao m c) (hnil : ao = none → m = 0 ∧ c = 0 ∧ news = []) (hl : news.length = m * size) (hnews : ∀ ad, ao = some ad → ∀ j u, news[j]? = some u → w.cell? (ad.add j) = some u) (h1 : ∀ u ∈ news, u.oneCell' = true)
    (h63 : n + m ≤ maxLen) (hbytes : (n + m) * bytes ≤ 140737488355328) (hbase : base ≤ w.heap.size) (H : Nat) (hH : w.heap.size = H)
    (h : ∀ g cap w', w'.ownsRow base e size (.slice (some ⟨g, 0, none⟩) (n + m) cap) (n + m) (xs ++ news) → w.grownBy w' (Value.slice (some ⟨g0, 0, none⟩) n c0).ownBlock → ((Value.slice (some ⟨g0, 0, none⟩) n c0).ownBlock = some g ∨ g = H) → g < w'.heap.size → wpList P ops Q rest (a.put o.dst (.slice (some ⟨g, 0, none⟩) (n + m) cap)) w') : wpList P ops Q (o :: rest) a w :=
  wpList_plain hgd fun _ hK => wp_appO w s x t ho base e i z size bytes ht hi hz hsize hby hzs hsz g0 c0 n xs hs hown ao m c news hx hnil hl hnews h1 h63 hbytes hbase H hH fun g cap w' h2 h3 h4 h5 => hK _ _ (h g cap w' h2 h3 h4 h5)
theorem step_appO {P : Program} (w : World) {ops : Array Oper} {o : Oper} {a : Act} {K : Act → World → Prop} {Q : Exit → Act → World → Prop} {E : Prop} (hgd : o.guard = none) (s x : Operand) (t : TypeId)
    (ho : o.op = .call { callee := .builtin .append, args := #[s, x], argTypes := #[t, t] })
    (base : Nat) (e : TypeId) (i : TypeInfo) (z : Value) (size bytes : Nat) (ht : P.underlying t = some (.slice e)) (hi : P.info? e = some i) (hz : i.zero = some z)
    (hsize : i.size = size) (hby : i.bytes = bytes) (hzs : z.cells.size = size) (hsz : 0 < size)
    (g0 c0 n : Nat) (xs : List Value) (hs : a.eval s = .slice (some ⟨g0, 0, none⟩) n c0) (hown : w.ownsRow base e size (.slice (some ⟨g0, 0, none⟩) n c0) n xs)
    (ao : Option Addr) (m c : Nat) (news : List Value) (hx : a.eval x = .slice ao m c) (hnil : ao = none → m = 0 ∧ c = 0 ∧ news = []) (hl : news.length = m * size) (hnews : ∀ ad, ao = some ad → ∀ j u, news[j]? = some u → w.cell? (ad.add j) = some u) (h1 : ∀ u ∈ news, u.oneCell' = true)
    (h63 : n + m ≤ maxLen) (hbytes : (n + m) * bytes ≤ 140737488355328) (hbase : base ≤ w.heap.size) (H : Nat) (hH : w.heap.size = H)
    (h : ∀ g cap w', w'.ownsRow base e size (.slice (some ⟨g, 0, none⟩) (n + m) cap) (n + m) (xs ++ news) → w.grownBy w' (Value.slice (some ⟨g0, 0, none⟩) n c0).ownBlock → ((Value.slice (some ⟨g0, 0, none⟩) n c0).ownBlock = some g ∨ g = H) → g < w'.heap.size → K (a.put o.dst (.slice (some ⟨g, 0, none⟩) (n + m) cap)) w') :
    if Region.wanted o (yielded ops a.tmps) = true then Oper.wp P o a w K Q else E := by
  have hw : Region.wanted o (yielded ops a.tmps) = true := by simp [Region.wanted, hgd]
  rw [if_pos hw]
  exact wp_appO w s x t ho base e i z size bytes ht hi hz hsize hby hzs hsz g0 c0 n xs hs hown ao m c news hx hnil hl hnews h1 h63 hbytes hbase H hH h
/-- The cells of an item, as an append reads them. -/
theorem OwnI.news {w : World} {a : Item} {ad : Option Addr} {n c : Nat} (h : OwnI w a) (hv : vI a = .slice ad n c) : (ad = none → n = 0 ∧ c = 0 ∧ cellsI a.2.2 = []) ∧ (cellsI a.2.2).length = n * 1 ∧ ∀ b, ad = some b → ∀ j u, (cellsI a.2.2)[j]? = some u → w.cell? (b.add j) = some u := by
  by_cases hn : a.2.1 = nilC
  · rw [vI_nil hn] at hv
    obtain ⟨rfl, rfl, rfl⟩ := Value.slice.inj hv
    rw [h.empty hn]
    exact ⟨fun _ => ⟨rfl, rfl, rfl⟩, rfl, fun b e => (by cases e)⟩
  · rw [vI_not hn] at hv
    obtain ⟨rfl, rfl, rfl⟩ := Value.slice.inj hv
    exact ⟨fun e => (by cases e), cells1 _, fun b e => (by cases e; exact own_news (h.own hn))⟩

theorem Its.retag {b : Nat} {T : Nat → Nat} {w : World} {l : List (Item × Item)} (h : Its b T w l) (g s : Nat) (hg : T g < b ∨ b + 2 * l.length ≤ T g) : Its b (upd T g s) w l := fun i p hi => by
  obtain ⟨h1, h2, h3, h4, h5, h6⟩ := h i p hi
  have hl := (List.getElem?_eq_some_iff.1 hi).1
  exact ⟨h1, h2, h3, h4, by rw [upd_other _ _ (fun e => by rw [e] at h5; omega)]; exact h5, by rw [upd_other _ _ (fun e => by rw [e] at h6; omega)]; exact h6⟩

/-- The lists that wait, as the loop of markInts finds them from k on. -/
def Old (T : Nat → Nat) (w : World) (x : List (Item × Item)) (k : Nat) : Prop :=
  ∀ i p, k ≤ i → x[i]? = some p → OwnI w p.1 ∧ OwnI w p.2 ∧ T p.1.1 = 1000000 + 2 * i ∧ T p.2.1 = 1000000 + 2 * i + 1
/-- The spines that were taken out. -/
def Spines (T : Nat → Nat) (w1 w : World) (G : List (Nat × Nat)) : Prop := ∀ p ∈ G, p.1 < w1.heap.size ∧ w.heap[p.1]? = w1.heap[p.1]? ∧ T p.1 = p.2

structure MarkSt (T0 : Nat → Nat) (w0 w1 : World) (K : Nat) (f : Nat → Value) (o x : List (Item × Item)) (G : List (Nat × Nat)) (k : Nat) (wr : World) (T : Nat → Nat) (g : Nat → Value) (L : Nat → List Value) (o' x' : List (Item × Item)) (M D Fm : List Int) (fr : List Item) : Prop where
  core : Core T wr K g L
  outs : Outs fr 0 T wr o'
  waits : Its 3000000 T wr x'
  old : Old T wr x k
  spines : Spines T w1 wr G
  l40 : L 13 = o'.map fun p => vI p.1
  l41 : L 14 = o'.map fun p => vI p.2
  l42 : L 15 = x'.map fun p => vI p.1
  l43 : L 16 = x'.map fun p => vI p.2
  l44 : L 17 = fr.map vI
  l45 : L 18 = M.map (Value.int .i64)
  l46 : L 19 = D.map (Value.int .i64)
  l47 : L 20 = Fm.map (Value.int .i64)
  lM : M.length = x'.length
  lD : D.length = x'.length
  lF : Fm.length = fr.length
  fresh : Fr 0 T wr fr
  full : ∀ p ∈ x', p.1.2.2.length ≤ p.1.2.1 ∧ p.1.2.2.length ≤ 1000000000000
  co : o'.length = o.length + fr.length
  cx : x'.length + fr.length = k
  same : ∀ j, ¬ (13 ≤ j ∧ j < 21) → g j = f j
  past : Past 9000000 T0 w0 T wr

theorem Core.retagOff {T : Nat → Nat} {w : World} {K : Nat} {f : Nat → Value} {L : Nat → List Value} (h : Core T w K f L) (g t j0 : Nat) (hg : T g = j0) (h1 : 13 ≤ j0) (h2 : j0 < 21) (hf : f j0 = .slice none 0 0) : Core (upd T g t) w K f L :=
  h.retag g t (fun e => by rw [e, h.tag] at hg; omega) (fun j i1 i2 b hb e => by
    have q := (h.spine j i1 i2).2 b hb
    rw [e, hg] at q
    subst q
    rw [hf] at hb
    cases hb)

/-- The world, the tags and the fields with which markInts' loop begins. -/
def set4 (w : World) (K : Nat) : World := (((w.setCell ⟨K, 15, none⟩ (.slice none 0 0)).setCell ⟨K, 16, none⟩ (.slice none 0 0)).setCell ⟨K, 18, none⟩ (.slice none 0 0)).setCell ⟨K, 19, none⟩ (.slice none 0 0)
def tag4 (T : Nat → Nat) (gW gN gM gD : Nat) : Nat → Nat := upd (upd (upd (upd T gW 4000042) gN 4000043) gM 4000045) gD 4000046

theorem markInit {T : Nat → Nat} {w : World} {K : Nat} {f : Nat → Value} {L : Nat → List Value} {o x : List (Item × Item)} {gW gN gM gD : Nat} (hC : Core T w K f L) (hO : Outs [] 0 T w o) (hX : Its 1000000 T w x)
    (l40 : L 13 = o.map fun p => vI p.1) (l41 : L 14 = o.map fun p => vI p.2) (l44 : L 17 = []) (l47 : L 20 = []) (lo : o.length ≤ 100000)
    (tW : T gW = 15) (tN : T gN = 16) (tM : T gM = 18) (tD : T gD = 19) (zW : gW < w.heap.size) (zN : gN < w.heap.size) (zM : gM < w.heap.size) (zD : gD < w.heap.size) :
    ∃ f1 L1, MarkSt T w (set4 w K) K f o x [(gW, 4000042), (gN, 4000043), (gM, 4000045), (gD, 4000046)] 0 (set4 w K) (tag4 T gW gN gM gD) f1 L1 o [] [] [] [] [] := by
  have c4 := (((hC.clear 15 (by omega) (by omega)).clear 16 (by omega) (by omega)).clear 18 (by omega) (by omega)).clear 19 (by omega) (by omega)
  have p4 : Past 21 T w T (set4 w K) := (((Past.set hC.tag (by omega) _ _).trans (Past.set hC.tag (by omega) _ _)).trans (Past.set hC.tag (by omega) _ _)).trans (Past.set hC.tag (by omega) _ _)
  have n1 : gN ≠ gW := fun e => by rw [e, tW] at tN; omega
  have n2 : gM ≠ gW := fun e => by rw [e, tW] at tM; omega
  have n3 : gM ≠ gN := fun e => by rw [e, tN] at tM; omega
  have n4 : gD ≠ gW := fun e => by rw [e, tW] at tD; omega
  have n5 : gD ≠ gN := fun e => by rw [e, tN] at tD; omega
  have n6 : gD ≠ gM := fun e => by rw [e, tM] at tD; omega
  have sN : upd T gW 4000042 gN = 16 := by rw [upd_other _ _ n1]; exact tN
  have sM : upd (upd T gW 4000042) gN 4000043 gM = 18 := by rw [upd_other _ _ n3, upd_other _ _ n2]; exact tM
  have sD : upd (upd (upd T gW 4000042) gN 4000043) gM 4000045 gD = 19 := by rw [upd_other _ _ n6, upd_other _ _ n5, upd_other _ _ n4]; exact tD
  have far : ∀ b, 21 ≤ T b → tag4 T gW gN gM gD b = T b := fun b hb => by
    unfold tag4
    rw [upd_other _ _ (fun e => by rw [e] at hb; omega), upd_other _ _ (fun e => by rw [e] at hb; omega), upd_other _ _ (fun e => by rw [e] at hb; omega), upd_other _ _ (fun e => by rw [e] at hb; omega)]
  refine ⟨_, _, ⟨(((c4.retagOff gW 4000042 15 tW (by omega) (by omega) (by simp [upd])).retagOff gN 4000043 16 sN (by omega) (by omega) (by simp [upd])).retagOff gM 4000045 18 sM (by omega) (by omega) (by simp [upd])).retagOff gD 4000046 19 sD (by omega) (by omega) (by simp [upd]), ?_, ?_, ?_, ?_, ?_, ?_, ?_, ?_, ?_, ?_, ?_, ?_, rfl, rfl, rfl, ?_, ?_, by simp, rfl, ?_, ?_⟩⟩
  · exact ((((hO.past p4 (by omega)).retag (by simp) gW _ (by omega)).retag (by simp) gN _ (by omega)).retag (by simp) gM _ (by omega)).retag (by simp) gD _ (by omega)
  · intro i p hi; simp at hi
  · intro i p _ hi
    obtain ⟨a1, a2, _, _, a5, a6⟩ := (hX.past p4 (by omega)) i p hi
    exact ⟨a1, a2, by rw [far _ (by omega)]; exact a5, by rw [far _ (by omega)]; exact a6⟩
  · intro p hp
    have hs : (set4 w K).heap.size = w.heap.size := by simp [set4]
    simp at hp
    rcases hp with rfl | rfl | rfl | rfl
    · exact ⟨by rw [hs]; exact zW, rfl, by unfold tag4; rw [upd_other _ _ (Ne.symm n4), upd_other _ _ (Ne.symm n2), upd_other _ _ (Ne.symm n1), upd_same]⟩
    · exact ⟨by rw [hs]; exact zN, rfl, by unfold tag4; rw [upd_other _ _ (Ne.symm n5), upd_other _ _ (Ne.symm n3), upd_same]⟩
    · exact ⟨by rw [hs]; exact zM, rfl, by unfold tag4; rw [upd_other _ _ (Ne.symm n6), upd_same]⟩
    · exact ⟨by rw [hs]; exact zD, rfl, by unfold tag4; rw [upd_same]⟩
  · simp [upd, l40]
  · simp [upd, l41]
  · simp [upd]
  · simp [upd]
  · simp [upd, l44]
  · simp [upd]
  · simp [upd]
  · simp [upd, l47]
  · intro i a _ ha; simp at ha
  · intro p hp; simp at hp
  · intro j hj
    rw [upd_other _ _ (by omega), upd_other _ _ (by omega), upd_other _ _ (by omega), upd_other _ _ (by omega)]
  · exact (((((p4.mono (by omega)).trans (Past.retag gW 4000042 (by omega) (by omega))).trans (Past.retag gN 4000043 (by omega) (by omega))).trans (Past.retag gM 4000045 (by omega) (by omega)))).trans (Past.retag gD 4000046 (by omega) (by omega))

/-- One thing more in a spine. -/
structure App (K j : Nat) (x : Value) (T : Nat → Nat) (W : World) (f : Nat → Value) (L : Nat → List Value) (T' : Nat → Nat) (W' : World) (f' : Nat → Value) (L' : Nat → List Value) : Prop where
  core : Core T' W' K f' L'
  past : Past 21 T W T' W'
  at_ : L' j = L j ++ [x]
  oth : ∀ i, i ≠ j → f' i = f i ∧ L' i = L i
theorem appE {T : Nat → Nat} {w w0 w1 : World} {K : Nat} {f : Nat → Value} {L : Nat → List Value} {j : Nat} {x : Value} {aj : Option Addr} {cj g cap n : Nat} (h1 : 13 ≤ j) (h2 : j < 21) (h : Core T w K f L) (hn : (L j).length = n) (hf : f j = .slice aj n cj)
    (hk : Keep [] w w0) (hgr : w0.grownBy w1 (Value.slice aj n cj).ownBlock) (hat : (Value.slice aj n cj).ownBlock = some g ∨ w.heap.size ≤ g)
    (hown : w1.ownsRow 0 (ety j) 1 (.slice (some ⟨g, 0, none⟩) (n + 1) cap) (n + 1) (L j ++ [x])) :
    Fld w1 K f ∧ ∃ T' f' L', App K j x T w f L T' (w1.setCell ⟨K, j, none⟩ (.slice (some ⟨g, 0, none⟩) (n + 1) cap)) f' L' := by
  subst hn
  rw [← hf] at hgr hat
  obtain ⟨a1, a2⟩ := h.app j h1 h2 x hk hgr hat hown
  exact ⟨h.mid j h1 h2 hk hgr, _, _, _, a1, a2, upd_same _ _ _, fun i hi => ⟨upd_other _ _ hi, upd_other _ _ hi⟩⟩
/-- The same, behind a copy (its tag: t). -/
theorem appCE {T : Nat → Nat} {W w w0 w1 : World} {K : Nat} {f : Nat → Value} {L : Nat → List Value} {j : Nat} {x : Value} {aj : Option Addr} {cj g cap n g3 c3 m : Nat} {es : List Int} (t : Nat) (ht : 21 ≤ t) (h1 : 13 ≤ j) (h2 : j < 21) (h : Core T W K f L) (hn : (L j).length = n) (hf : f j = .slice aj n cj)
    (hB : Below W.heap.size W w) (hg3 : W.heap.size ≤ g3) (hm : es.length = m) (hc : w.ownsRow 0 3 1 (.slice (some ⟨g3, 0, none⟩) m c3) m (cellsI es))
    (hk : Keep [] w w0) (hgr : w0.grownBy w1 (Value.slice aj n cj).ownBlock) (hat : (Value.slice aj n cj).ownBlock = some g ∨ w.heap.size ≤ g)
    (hown : w1.ownsRow 0 (ety j) 1 (.slice (some ⟨g, 0, none⟩) (n + 1) cap) (n + 1) (L j ++ [x])) :
    Fld w1 K f ∧ ∃ T' f' L', App K j x T W f L T' (w1.setCell ⟨K, j, none⟩ (.slice (some ⟨g, 0, none⟩) (n + 1) cap)) f' L' ∧ OwnI (w1.setCell ⟨K, j, none⟩ (.slice (some ⟨g, 0, none⟩) (n + 1) cap)) (g3, c3, es) ∧ T' g3 = t := by
  obtain ⟨a1, T', f', L', a2⟩ := appE h1 h2 ((h.tagNew g3 t hg3).below hB) hn hf hk hgr hat hown
  have o1 : OwnI w (g3, c3, es) := OwnI.of (by rw [hm]; exact hc)
  have t1 : upd T g3 t g3 = t := upd_same _ _ _
  obtain ⟨o2, t2⟩ := a2.past.item o1 (.inr (by show 21 ≤ upd T g3 t g3; rw [t1]; exact ht))
  exact ⟨a1, T', f', L', ⟨a2.core, ((Past.tagNew g3 t hg3).trans (Past.below hB)).trans a2.past, a2.at_, a2.oth⟩, o2, t2.trans t1⟩

theorem Old.past {t : Nat} {T T' : Nat → Nat} {w w' : World} {x : List (Item × Item)} {k : Nat} (h : Old T w x k) (hp : Past t T w T' w') (ht : t ≤ 1000000) : Old T' w' x k := fun i p hi hx => by
  obtain ⟨h1, h2, h3, h4⟩ := h i p hi hx
  obtain ⟨a1, a2⟩ := hp.item h1 (.inr (by omega))
  obtain ⟨b1, b2⟩ := hp.item h2 (.inr (by omega))
  exact ⟨a1, b1, a2.trans h3, b2.trans h4⟩
theorem Old.retag {T : Nat → Nat} {w : World} {x : List (Item × Item)} {k : Nat} (h : Old T w x k) (g s : Nat) (hg : T g < 1000000 + 2 * k) : Old (upd T g s) w x k := fun i p hi hx => by
  obtain ⟨h1, h2, h3, h4⟩ := h i p hi hx
  exact ⟨h1, h2, by rw [upd_other _ _ (fun e => by rw [e] at h3; omega)]; exact h3, by rw [upd_other _ _ (fun e => by rw [e] at h4; omega)]; exact h4⟩
theorem Old.next {T : Nat → Nat} {w : World} {x : List (Item × Item)} {k : Nat} (h : Old T w x k) : Old T w x (k + 1) := fun i p hi hx => h i p (by omega) hx
theorem Spines.past {t : Nat} {T T' : Nat → Nat} {w1 w w' : World} {G : List (Nat × Nat)} (h : Spines T w1 w G) (hp : Past t T w T' w') (ht : ∀ p ∈ G, t ≤ p.2) : Spines T' w1 w' G := fun p hm => by
  obtain ⟨h1, h2, h3⟩ := h p hm
  have hl : p.1 < w.heap.size := by
    have : (w.heap[p.1]?).isSome := by rw [h2]; simp [h1]
    simpa using this
  obtain ⟨a1, a2⟩ := hp.block p.1 hl (.inr (by have := ht p hm; omega))
  exact ⟨h1, a1.trans h2, a2.trans h3⟩
theorem Spines.retag {T : Nat → Nat} {w1 w : World} {G : List (Nat × Nat)} (h : Spines T w1 w G) (g s : Nat) (hg : ∀ p ∈ G, T g < p.2) : Spines (upd T g s) w1 w G := fun p hm => by
  obtain ⟨h1, h2, h3⟩ := h p hm
  exact ⟨h1, h2, by rw [upd_other _ _ (fun e => by have := hg p hm; rw [e] at h3; omega)]; exact h3⟩

theorem MarkSt.below {T0 : Nat → Nat} {w0 w1 : World} {K : Nat} {f : Nat → Value} {o x : List (Item × Item)} {G : List (Nat × Nat)} {k : Nat} {wr w' : World} {T : Nat → Nat} {g : Nat → Value} {L : Nat → List Value} {o' x' : List (Item × Item)} {M D Fm : List Int} {fr : List Item}
    (h : MarkSt T0 w0 w1 K f o x G k wr T g L o' x' M D Fm fr) (hb : Below wr.heap.size wr w') : MarkSt T0 w0 w1 K f o x G k w' T g L o' x' M D Fm fr :=
  { h with core := h.core.below hb, outs := h.outs.past (Past.below (t := 0) hb) (by omega), fresh := h.fresh.past (Past.below (t := 0) hb) (by omega), waits := h.waits.past (Past.below (t := 0) hb) (by omega), old := h.old.past (Past.below (t := 0) hb) (by omega), spines := h.spines.past (Past.below (t := 0) hb) (fun _ _ => Nat.zero_le _), past := h.past.trans (Past.below hb) }

/-- A list that is not due waits on. -/
theorem markKeep {T0 : Nat → Nat} {w0 w1 : World} {K : Nat} {f : Nat → Value} {o x : List (Item × Item)} {G : List (Nat × Nat)} {k : Nat} {W0 W1 W2 W3 W4 : World} {T T1 T2 T3 T4 : Nat → Nat} {g g1 g2 g3 g4 : Nat → Value} {L L1 L2 L3 L4 : Nat → List Value} {o' x' : List (Item × Item)} {M D Fm : List Int} {fr : List Item} {p : Item × Item} {mk dk : Int}
    (h : MarkSt T0 w0 w1 K f o x G k W0 T g L o' x' M D Fm fr) (hp : x[k]? = some p) (hs : p.1.2.2 = p.2.2.2) (hfu : p.1.2.2.length ≤ p.1.2.1 ∧ p.1.2.2.length ≤ 1000000000000) (hG : ∀ q ∈ G, 4000000 ≤ q.2) (hx : x.length ≤ 100000) (ho : o.length + x.length ≤ 100000)
    (a1 : App K 15 (vI p.1) T W0 g L T1 W1 g1 L1) (a2 : App K 16 (vI p.2) T1 W1 g1 L1 T2 W2 g2 L2) (a3 : App K 18 (.int .i64 mk) T2 W2 g2 L2 T3 W3 g3 L3) (a4 : App K 19 (.int .i64 dk) T3 W3 g3 L3 T4 W4 g4 L4) :
    ∃ T', MarkSt T0 w0 w1 K f o x G (k + 1) W4 T' g4 L4 o' (x' ++ [p]) (M ++ [mk]) (D ++ [dk]) Fm fr := by
  have P : Past 21 T W0 T4 W4 := ((a1.past.trans a2.past).trans a3.past).trans a4.past
  have hk := (List.getElem?_eq_some_iff.1 hp).1
  have hco := h.co
  have hcx := h.cx
  have hfl : fr.length ≤ 100000 := by omega
  obtain ⟨p1, p2, p3, p4⟩ := (h.old.past P (by omega)) k p (Nat.le_refl _) hp
  have hne : p.2.1 ≠ p.1.1 := fun e => by rw [e, p3] at p4; omega
  have q4 : upd T4 p.1.1 (3000000 + 2 * x'.length) p.2.1 = 1000000 + 2 * k + 1 := by rw [upd_other _ _ hne]; exact p4
  have hl : ∀ i, 13 ≤ i → i < 21 → L4 i = if i = 15 then L 15 ++ [vI p.1] else if i = 16 then L 16 ++ [vI p.2] else if i = 18 then L 18 ++ [.int .i64 mk] else if i = 19 then L 19 ++ [.int .i64 dk] else L i := fun i _ _ => by
    by_cases e1 : i = 15
    · subst e1; rw [if_pos rfl, (a4.oth 15 (by omega)).2, (a3.oth 15 (by omega)).2, (a2.oth 15 (by omega)).2, a1.at_]
    rw [if_neg e1]
    by_cases e2 : i = 16
    · subst e2; rw [if_pos rfl, (a4.oth 16 (by omega)).2, (a3.oth 16 (by omega)).2, a2.at_, (a1.oth 16 (by omega)).2]
    rw [if_neg e2]
    by_cases e3 : i = 18
    · subst e3; rw [if_pos rfl, (a4.oth 18 (by omega)).2, a3.at_, (a2.oth 18 (by omega)).2, (a1.oth 18 (by omega)).2]
    rw [if_neg e3]
    by_cases e4 : i = 19
    · subst e4; rw [if_pos rfl, a4.at_, (a3.oth 19 (by omega)).2, (a2.oth 19 (by omega)).2, (a1.oth 19 (by omega)).2]
    rw [if_neg e4, (a4.oth i e4).2, (a3.oth i e3).2, (a2.oth i e2).2, (a1.oth i e1).2]
  refine ⟨upd (upd T4 p.1.1 (3000000 + 2 * x'.length)) p.2.1 (3000000 + 2 * x'.length + 1), ⟨(a4.core.retag' _ _ (by omega)).retag' _ _ (by omega), ?_, ?_, ?_, ?_, ?_, ?_, ?_, ?_, ?_, ?_, ?_, ?_, ?_, ?_, h.lF, ?_, ?_, h.co, ?_, ?_, ?_⟩⟩
  · exact ((h.outs.past P (by omega)).retag hfl _ _ (.inr (by omega))).retag hfl _ _ (.inr (by omega))
  · refine (((h.waits.past P (by omega)).retag _ _ (.inl (by omega))).retag _ _ (.inl (by omega))).snoc p1 p2 hs (by omega) ?_ ?_
    · rw [upd_other _ _ (Ne.symm hne), upd_same]
    · rw [upd_same]
  · exact (((h.old.past P (by omega)).next).retag _ _ (by omega)).retag _ _ (by omega)
  · exact ((h.spines.past P (fun q hq => by have := hG q hq; omega)).retag _ _ (fun q hq => by have := hG q hq; omega)).retag _ _ (fun q hq => by have := hG q hq; omega)
  · rw [hl 13 (by omega) (by omega)]; exact h.l40
  · rw [hl 14 (by omega) (by omega)]; exact h.l41
  · rw [hl 15 (by omega) (by omega)]; simp [h.l42]
  · rw [hl 16 (by omega) (by omega)]; simp [h.l43]
  · rw [hl 17 (by omega) (by omega)]; exact h.l44
  · rw [hl 18 (by omega) (by omega)]; simp [h.l45]
  · rw [hl 19 (by omega) (by omega)]; simp [h.l46]
  · rw [hl 20 (by omega) (by omega)]; exact h.l47
  · simp [h.lM]
  · simp [h.lD]
  · exact ((h.fresh.past P (by omega)).retag hfl _ _ (.inr (by omega))).retag hfl _ _ (.inr (by omega))
  · intro q hq
    simp at hq
    rcases hq with hq | rfl
    · exact h.full q hq
    · exact hfu
  · simp; omega
  · intro j hj
    rw [(a4.oth j (by omega)).1, (a3.oth j (by omega)).1, (a2.oth j (by omega)).1, (a1.oth j (by omega)).1]
    exact h.same j hj
  · exact ((h.past.trans (P.mono (by omega))).trans (Past.retag _ _ (by omega) (by omega))).trans (Past.retag _ _ (by omega) (by omega))

theorem cellsI_set (l : List Int) (k : Nat) {s : Int} : (cellsI l).set k (.int .i64 s) = cellsI (l.set k s) := by
  simp [cellsI, List.map_set]
/-- A place of a kept list is written. -/
theorem OwnI.store {w : World} {g c k : Nat} {es : List Int} {s : Int} (h : OwnI w (g, c, es)) : OwnI (w.setCell ⟨g, k, none⟩ (.int .i64 s)) (g, c, es.set k s) := by
  by_cases hn : c = nilC
  · have h0 : es = [] := h.empty hn
    refine .inl ⟨hn, ?_, by simpa using h.lt⟩
    show es.set k s = []
    rw [h0]; rfl
  · refine OwnI.of ?_
    have h1 := World.ownsRow.stored (h.own hn) k (.int .i64 s)
    have e := cellsI_set es k (s := s)
    simp only at h1 e ⊢
    rw [← e, List.length_set]
    exact h1.1

theorem Its.keep {b : Nat} {T : Nat → Nat} {w w' : World} {l : List (Item × Item)} {bs : List Nat} (h : Its b T w l) (hk : Keep bs w w') (hb : ∀ c ∈ bs, T c < b ∨ b + 2 * l.length ≤ T c) : Its b T w' l := fun i p hi => by
  obtain ⟨h1, h2, h3, h4, h5, h6⟩ := h i p hi
  have hl := (List.getElem?_eq_some_iff.1 hi).1
  exact ⟨h1.block (hk.block _ h1.lt (fun hm => by have := hb _ hm; omega)), h2.block (hk.block _ h2.lt (fun hm => by have := hb _ hm; omega)), h3, h4, h5, h6⟩
theorem Old.keep {T : Nat → Nat} {w w' : World} {x : List (Item × Item)} {k : Nat} {bs : List Nat} (h : Old T w x k) (hk : Keep bs w w') (hb : ∀ c ∈ bs, T c < 1000000 + 2 * k) : Old T w' x k := fun i p hi hx => by
  obtain ⟨h1, h2, h3, h4⟩ := h i p hi hx
  exact ⟨h1.block (hk.block _ h1.lt (fun hm => by have := hb _ hm; omega)), h2.block (hk.block _ h2.lt (fun hm => by have := hb _ hm; omega)), h3, h4⟩
theorem Spines.keep {T : Nat → Nat} {w1 w w' : World} {G : List (Nat × Nat)} {bs : List Nat} (h : Spines T w1 w G) (hk : Keep bs w w') (hb : ∀ c ∈ bs, ∀ p ∈ G, T c < p.2) : Spines T w1 w' G := fun p hm => by
  obtain ⟨h1, h2, h3⟩ := h p hm
  have hl : p.1 < w.heap.size := by
    have : (w.heap[p.1]?).isSome := by rw [h2]; simp [h1]
    simpa using this
  exact ⟨h1, (hk.block _ hl (fun hc => by have := hb _ hc p hm; omega)).trans h2, h3⟩

/-- The store into 'bad', which stays false. -/
theorem MarkSt.field1 {T0 : Nat → Nat} {w0 w1 : World} {K : Nat} {f : Nat → Value} {o x : List (Item × Item)} {G : List (Nat × Nat)} {k : Nat} {wr : World} {T : Nat → Nat} {g : Nat → Value} {L : Nat → List Value} {o' x' : List (Item × Item)} {M D Fm : List Int} {fr : List Item}
    (h : MarkSt T0 w0 w1 K f o x G k wr T g L o' x' M D Fm fr) (hf : f 1 = .bool false) (hG : ∀ q ∈ G, 4000000 ≤ q.2) : MarkSt T0 w0 w1 K f o x G k (wr.setCell ⟨K, 1, none⟩ (.bool false)) T (upd g 1 (.bool false)) L o' x' M D Fm fr := by
  have P : ∀ t, 2 ≤ t → Past t T wr T (wr.setCell ⟨K, 1, none⟩ (.bool false)) := fun t ht => Past.set h.core.tag ht _ _
  exact { h with
    core := h.core.field 1 (by omega) (by omega) _
    outs := h.outs.past (P 12 (by omega)) (by omega)
    fresh := h.fresh.past (P 12 (by omega)) (by omega)
    waits := h.waits.past (P 12 (by omega)) (by omega)
    old := h.old.past (P 12 (by omega)) (by omega)
    spines := h.spines.past (P 12 (by omega)) (fun q hq => by have := hG q hq; omega)
    same := fun j hj => by
      by_cases e : j = 1
      · subst e; rw [upd_same, hf]
      · rw [upd_other _ _ e]; exact h.same j hj
    past := h.past.trans (P _ (by omega)) }

/-- A list that is due is written full. -/
theorem markMove {T0 : Nat → Nat} {w0 w1 : World} {K : Nat} {f : Nat → Value} {o x : List (Item × Item)} {G : List (Nat × Nat)} {k : Nat} {W0 W1 W2 W3 W4 W5 : World} {T T1 T2 T3 T4 : Nat → Nat} {g g1 g2 g3 g4 : Nat → Value} {L L1 L2 L3 L4 : Nat → List Value} {o' x' : List (Item × Item)} {M D Fm : List Int} {fr : List Item} {p : Item × Item} {mk : Int} {gc cc : Nat} {es' : List Int}
    (h : MarkSt T0 w0 w1 K f o x G k W0 T g L o' x' M D Fm fr) (hp : x[k]? = some p) (hfu : p.1.2.2.length ≤ p.1.2.1 ∧ p.1.2.2.length ≤ 1000000000000) (hG : ∀ q ∈ G, 4000000 ≤ q.2) (hx : x.length ≤ 100000) (ho : o.length + x.length ≤ 100000)
    (hk : Keep [p.1.1] W0 W1) (hw : OwnI W1 (p.1.1, p.1.2.1, es')) (hl : es'.length = p.1.2.2.length)
    (a1 : App K 13 (vI p.1) T W1 g L T1 W2 g1 L1) (a2 : App K 14 (vI (gc, cc, es')) T1 W2 g1 L1 T2 W3 g2 L2) (a2' : OwnI W3 (gc, cc, es')) (a2'' : T2 gc = 100) (a3 : App K 17 (vI p.1) T2 W3 g2 L2 T3 W4 g3 L3) (a4 : App K 20 (.int .i64 mk) T3 W4 g3 L3 T4 W5 g4 L4) :
    ∃ T', MarkSt T0 w0 w1 K f o x G (k + 1) W5 T' g4 L4 (o' ++ [((p.1.1, p.1.2.1, es'), (gc, cc, es'))]) x' M D (Fm ++ [mk]) (fr ++ [(p.1.1, p.1.2.1, es')]) := by
  have P : Past 21 T W1 T4 W5 := ((a1.past.trans a2.past).trans a3.past).trans a4.past
  have P2 : Past 21 T2 W3 T4 W5 := a3.past.trans a4.past
  have hkk := (List.getElem?_eq_some_iff.1 hp).1
  have hco := h.co
  have hcx := h.cx
  obtain ⟨_, _, p3, _⟩ := h.old k p (Nat.le_refl _) hp
  have ev : vI (p.1.1, p.1.2.1, es') = vI p.1 := by unfold vI; simp only; rw [hl]
  obtain ⟨b1, b2⟩ := P.item hw (.inr (by show 21 ≤ T p.1.1; omega))
  obtain ⟨c1, c2⟩ := P2.item a2' (.inr (by show 21 ≤ T2 gc; omega))
  have b3 : T4 p.1.1 = 1000000 + 2 * k := b2.trans p3
  have c3 : T4 gc = 100 := c2.trans a2''
  have hfl : fr.length ≤ 100000 := by omega
  have hne : gc ≠ p.1.1 := fun e => by rw [e, b3] at c3; omega
  have bs : ∀ c ∈ [p.1.1], T c = 1000000 + 2 * k := fun c hc => by simp at hc; rw [hc]; exact p3
  have hL : ∀ i, 13 ≤ i → i < 21 → L4 i = if i = 13 then L 13 ++ [vI p.1] else if i = 14 then L 14 ++ [vI (gc, cc, es')] else if i = 17 then L 17 ++ [vI p.1] else if i = 20 then L 20 ++ [.int .i64 mk] else L i := fun i _ _ => by
    by_cases e1 : i = 13
    · subst e1; rw [if_pos rfl, (a4.oth 13 (by omega)).2, (a3.oth 13 (by omega)).2, (a2.oth 13 (by omega)).2, a1.at_]
    rw [if_neg e1]
    by_cases e2 : i = 14
    · subst e2; rw [if_pos rfl, (a4.oth 14 (by omega)).2, (a3.oth 14 (by omega)).2, a2.at_, (a1.oth 14 (by omega)).2]
    rw [if_neg e2]
    by_cases e3 : i = 17
    · subst e3; rw [if_pos rfl, (a4.oth 17 (by omega)).2, a3.at_, (a2.oth 17 (by omega)).2, (a1.oth 17 (by omega)).2]
    rw [if_neg e3]
    by_cases e4 : i = 20
    · subst e4; rw [if_pos rfl, a4.at_, (a3.oth 20 (by omega)).2, (a2.oth 20 (by omega)).2, (a1.oth 20 (by omega)).2]
    rw [if_neg e4, (a4.oth i e4).2, (a3.oth i e3).2, (a2.oth i e2).2, (a1.oth i e1).2]
  refine ⟨upd T4 p.1.1 (200 + fr.length), ⟨a4.core.retag' _ _ (by omega), ?_, ?_, ?_, ?_, ?_, ?_, ?_, ?_, ?_, ?_, ?_, ?_, h.lM, h.lD, ?_, ?_, h.full, ?_, ?_, ?_, ?_⟩⟩
  · refine (((((h.outs.keep hfl hk (fun c hc => by have := bs c hc; omega)).past P (by omega)).retag hfl _ _ (.inr (by omega)))).more _).snoc b1.row c1.row ⟨rfl, b1.fine, c1.fine⟩ (by show es'.length ≤ 2000000000000; omega) ?_ (.inr ⟨fr.length, Nat.zero_le _, by simp, ?_⟩)
    · exact (upd_other _ _ hne).trans c3
    · exact upd_same _ _ _
  · exact ((h.waits.keep hk (fun c hc => by have := bs c hc; omega)).past P (by omega)).retag _ _ (.inl (by omega))
  · exact ((h.old.next.keep hk (fun c hc => by have := bs c hc; omega)).past P (by omega)).retag _ _ (by omega)
  · exact ((h.spines.keep hk (fun c hc q hq => by have := bs c hc; have := hG q hq; omega)).past P (fun q hq => by have := hG q hq; omega)).retag _ _ (fun q hq => by have := hG q hq; omega)
  · rw [hL 13 (by omega) (by omega)]; simp [h.l40, ev]
  · rw [hL 14 (by omega) (by omega)]; simp [h.l41]
  · rw [hL 15 (by omega) (by omega)]; exact h.l42
  · rw [hL 16 (by omega) (by omega)]; exact h.l43
  · rw [hL 17 (by omega) (by omega)]; simp [h.l44, ev]
  · rw [hL 18 (by omega) (by omega)]; exact h.l45
  · rw [hL 19 (by omega) (by omega)]; exact h.l46
  · rw [hL 20 (by omega) (by omega)]; simp [h.l47]
  · simp [h.lF]
  · intro i a hi ha
    by_cases hl2 : i < fr.length
    · rw [List.getElem?_append_left hl2] at ha
      exact (((h.fresh.keep hfl hk (fun c hc => by have := bs c hc; omega)).past P (by omega)).retag hfl _ _ (.inr (by omega))) i a hi ha
    · have e : i = fr.length := by
        have := (List.getElem?_eq_some_iff.1 ha).1
        simp at this; omega
      subst e
      simp at ha
      subst ha
      exact ⟨b1, upd_same _ _ _, by show es'.length ≤ 1000000000000; omega⟩
  · simp; omega
  · simp; omega
  · intro j hj
    rw [(a4.oth j (by omega)).1, (a3.oth j (by omega)).1, (a2.oth j (by omega)).1, (a1.oth j (by omega)).1]
    exact h.same j hj
  · exact ((h.past.trans (Keep.past hk (fun c hc => by have := bs c hc; omega))).trans (P.mono (by omega))).trans (Past.retag _ _ (by omega) (by omega))

/-- What stands behind markInts. -/
structure MarkFin (T0 : Nat → Nat) (w0 : World) (K : Nat) (f : Nat → Value) (o : List (Item × Item)) (n : Nat) (W : World) (T : Nat → Nat) (g : Nat → Value) (L : Nat → List Value) (o' x' : List (Item × Item)) (M D Fm : List Int) (fr : List Item) : Prop where
  core : Core T W K g L
  outs : Outs fr 0 T W o'
  waits : Its 1000000 T W x'
  l40 : L 13 = o'.map fun p => vI p.1
  l41 : L 14 = o'.map fun p => vI p.2
  l42 : L 15 = x'.map fun p => vI p.1
  l43 : L 16 = x'.map fun p => vI p.2
  l44 : L 17 = fr.map vI
  l45 : L 18 = M.map (Value.int .i64)
  l46 : L 19 = D.map (Value.int .i64)
  l47 : L 20 = Fm.map (Value.int .i64)
  lM : M.length = x'.length
  lD : D.length = x'.length
  lF : Fm.length = fr.length
  fresh : Fr 0 T W fr
  full : ∀ p ∈ x', p.1.2.2.length ≤ p.1.2.1 ∧ p.1.2.2.length ≤ 1000000000000
  co : o'.length = o.length + fr.length
  cx : x'.length + fr.length = n
  same : ∀ j, ¬ (13 ≤ j ∧ j < 21) → g j = f j
  past : Past 9000000 T0 w0 T W
def back (T : Nat → Nat) : Nat → Nat := fun b => if 3000000 ≤ T b ∧ T b < 4000000 then T b - 2000000 else T b
theorem back_out (T : Nat → Nat) {b : Nat} (h : T b < 3000000 ∨ 4000000 ≤ T b) : back T b = T b := by unfold back; rw [if_neg (by omega)]
theorem markExit {T0 : Nat → Nat} {w0 w1 : World} {K : Nat} {f : Nat → Value} {o x : List (Item × Item)} {G : List (Nat × Nat)} {k : Nat} {W : World} {T : Nat → Nat} {g : Nat → Value} {L : Nat → List Value} {o' x' : List (Item × Item)} {M D Fm : List Int} {fr : List Item} (h : MarkSt T0 w0 w1 K f o x G k W T g L o' x' M D Fm fr) (hx : k ≤ 100000) (ho : o.length + k ≤ 100000) :
    ∃ T', MarkFin T0 w0 K f o k W T' g L o' x' M D Fm fr := by
  have hco := h.co
  have hcx := h.cx
  refine ⟨back T, ⟨⟨h.core.fld, ?_, ?_⟩, ?_, ?_, h.l40, h.l41, h.l42, h.l43, h.l44, h.l45, h.l46, h.l47, h.lM, h.lD, h.lF, ?_, h.full, h.co, h.cx, h.same, ?_⟩⟩
  · rw [back_out _ (by have := h.core.tag; omega)]; exact h.core.tag
  · intro j h1 h2
    refine ⟨(h.core.spine j h1 h2).1, fun b hb => ?_⟩
    have := (h.core.spine j h1 h2).2 b hb
    rw [back_out _ (by omega)]; exact this
  · intro p hm
    obtain ⟨q1, q2, q3, q4, q5, q6⟩ := h.outs p hm
    refine ⟨q1, q2, q3, q4, by rw [back_out _ (by clear q6; omega)]; exact q5, ?_⟩
    rcases q6 with q6 | ⟨i, i1, i2, i3⟩
    · exact .inl (by rw [back_out _ (by omega)]; exact q6)
    · have hl := (List.getElem?_eq_some_iff.1 i2).1
      exact .inr ⟨i, i1, i2, by rw [back_out _ (by omega)]; exact i3⟩
  · intro i p hi
    have hl := (List.getElem?_eq_some_iff.1 hi).1
    obtain ⟨q1, q2, q3, q4, q5, q6⟩ := h.waits i p hi
    exact ⟨q1, q2, q3, q4, by unfold back; rw [if_pos (by omega)]; omega, by unfold back; rw [if_pos (by omega)]; omega⟩
  · intro i a hi ha
    obtain ⟨q1, q2, q3⟩ := h.fresh i a hi ha
    have hl := (List.getElem?_eq_some_iff.1 ha).1
    exact ⟨q1, by rw [back_out _ (by omega)]; exact q2, q3⟩
  · exact ⟨h.past.os, h.past.tape, h.past.output, h.past.size, fun b hb hx' => by
      obtain ⟨r1, r2⟩ := h.past.block b hb hx'
      exact ⟨r1, by rw [back_out _ (by omega)]; exact r2⟩⟩

end BookI
end Go.Proofs.YtebfokjgeknciabGreatDoor
