import Derived.Test.YtkebbmdghnplmaaDoorQc4
import Derived.BigQuiet
import Derived.Deep.LoopGhost
import Derived.Deep.Draws
import Derived.Deep.QuietTactic
import Derived.Test.YtkebbmdghnplmaaDoorQc3
import Derived.Test.YtkebbmdghnplmaaDoorQb1
import Derived.ControlIn
import Derived.Scope
import Derived.Test.YtkebbmdghnplmaaDoorProg
import Derived.Test.YtkebbmdghnplmaaDoorQc5
namespace Go.Proofs.YtkebbmdghnplmaaDoor
namespace Qb
open Go.RowKit Go.Shelf CMath Byt Laws Irw Crw Cod Qe
set_option linter.unusedVariables false
set_option linter.unusedSimpArgs false
set_option maxRecDepth 100000
attribute [local go_sem] Oper.semAt_some

/-- The key that stands whole at a place. -/
def keyOf (eb : List Nat) (pl : Nat) : ByteArray := match wk (eb.drop pl) [] with | [] => ⟨#[]⟩ | x :: _ => x.1.1
theorem keyOf_wkp {eb : List Nat} {pl : Nat} {x : Nat × En} {es : List (Nat × En)} (h : es ++ [x] <+: wkp eb pl) (he : es = []) : keyOf eb pl = x.2.1 := by
  subst he
  unfold wkp at h
  unfold keyOf
  cases hw : wk (eb.drop pl) [] with
  | nil => rw [hw] at h; simp [pos] at h
  | cons y t =>
    rw [hw] at h
    simp only [pos, List.nil_append, List.cons_prefix_cons] at h
    rw [h.1]
theorem keyOf_nil {eb : List Nat} {pl : Nat} (h : wkp eb pl = []) : keyOf eb pl = ⟨#[]⟩ := by
  unfold wkp at h
  unfold keyOf
  cases hw : wk (eb.drop pl) [] with
  | nil => rfl
  | cons y t => rw [hw] at h; simp [pos] at h

structure Ka (w : World) (x : ByteArray) (W : World) : Prop where
  c : W.cell? ⟨w.heap.size, 0, none⟩ = some (.string x)
  f : W.frozen? ⟨w.heap.size, 0, none⟩ = false
  bl : Below w.heap.size w W
theorem Ka.grown {w A C : World} {x : ByteArray} {row : Option Nat} (h : Ka w x A) (hg : A.grownBy C row) (hr : ∀ r, row = some r → w.heap.size ≤ r ∧ ∃ o : Obj, A.heap[r]? = some o ∧ o.isCells = false) : Ka w x C := by
  have k0 := cell_grown' hg (fun x e => (hr x e).2) h.c
  exact ⟨(World.cell?_of_block (a := ⟨w.heap.size, 0, none⟩) k0).trans h.c, (World.frozen?_of_block (a := ⟨w.heap.size, 0, none⟩) k0).trans h.f, below_grown (B := 0) h.bl hg (Nat.le_refl _) (fun r e => (hr r e).1)⟩
set_option maxHeartbeats 1000000 in
theorem keyAt_in (w : World) (K o pl : Nat) (eb pb : List Nat) (hk : BlkZ w K o eb pb) (hpl : pl ≤ eb.length) :
    CallsIn Fence.wide 7 Tryd.prog 82 #[.pointer (some ⟨K, o, none⟩), .int .i64 (pl : Int)] w fun e w' => e = .returned (.string (keyOf eb pl)) ∧ Below w.heap.size w w' := by
  have HK : Hid (BlkZ w K o eb pb) := hk
  clear hk
  have g1 : (w.alloc (.cells #[.string ⟨#[]⟩] 9)).heap[w.heap.size]? = some (.cells #[.string ⟨#[]⟩] 9) := World.alloc_heap_new _ _
  have hb2 : Below w.heap.size w (w.alloc (.cells #[.string ⟨#[]⟩] 9)) := (Below.refl _ _).alloc (Nat.le_refl _) _
  have hs2 : (w.alloc (.cells #[.string ⟨#[]⟩] 9)).heap.size = w.heap.size + 1 := by simp
  refine callsIn_of_wp_marks Tryd.func82 rfl trivial ?_ rfl
  simp only [Tryd.ntmps82, List.size_toArray, List.length_cons, List.length_nil, Nat.reduceAdd, Nat.reduceSub, Array.replicate_succ, Array.replicate_zero, List.push_toArray, List.append_toArray, List.nil_append, List.cons_append]
  have hf3 : Fence.wide.fn 36 := trivial
  gi_wp2_with fail
  generalize (w.alloc (.cells #[.string ⟨#[]⟩] 9)) = w2 at *
  refine (callsIn_wide.2 (walk_any w2 K o pl)).mono ?_
  rintro e w4 ⟨rfl, hb4, hs4, c4a, c4b⟩
  dsimp only
  rw [hs2] at hs4 c4a c4b ⊢
  have g4 := (hb4.block _ (by omega)).trans g1
  have hb24 : Below w.heap.size w w4 := hb2.trans (hb4.mono (by omega))
  have H0 : Hid (Ka w ⟨#[]⟩ w4) := ⟨by rw [cell_of_obj g4]; rfl, froz_of_obj g4, hb24⟩
  have HSQ : Hid (SeqE (fun _ => False) Fence.wide 6 5 Tryd.prog 69 #[.pointer (some ⟨w.heap.size + 1, 0, none⟩), .pointer (some ⟨w.heap.size + 1 + 1, 0, none⟩)] encP (wkp eb pl) w4 (fun _ => 0)) := walk_seq (fun _ => False) (fun z => z) 6 (by decide) _ _ _ K o pl eb pb w4 hpl (HK.out.below hb24) (fun _ _ => rfl) c4a c4b (fun z => z) (fun z => z)
  have qs4 : w.heap.size ≤ w4.heap.size := by omega
  clear hb2 hb4 hb24 g1 g4 c4a c4b hs2 hs4
  gi_wp2
  refine range_e rfl (by decide) (gf := 69) (lb := #[.pointer (some ⟨w.heap.size + 1, 0, none⟩), .pointer (some ⟨w.heap.size + 1 + 1, 0, none⟩)]) rfl trivial (enters_of Tryd.func69 (by kernel_rfl) rfl)
    (fun _ => False) (fun z => z) (fun _ => 0) (fun _ _ => rfl) HSQ.out (fun _ => rfl)
    (fun es _ W => es = [] ∧ Ka w ⟨#[]⟩ W) (fun c es _ W => c = .ret ∧ ∃ x, es = [x] ∧ Ka w x.2.1 W)
    (fun es T A C row h hg hr => ⟨h.1, h.2.grown hg (fun r e => ⟨Nat.le_trans qs4 (hr r e).1, (hr r e).2⟩)⟩) (fun c es T A C row h hg hr => ⟨h.1, by obtain ⟨x, h1, h2⟩ := h.2; exact ⟨x, h1, h2.grown hg (fun r e => ⟨Nat.le_trans qs4 (hr r e).1, (hr r e).2⟩)⟩⟩) ⟨rfl, H0.out⟩
    (fun e a' Wc W' => W' = Wc.alloc (.cells #[.string e.2.1, .int .u64 e.2.2.1, .bool e.2.2.2.1, .string e.2.2.2.2] 30) ∧ a' = { tmps := #[.pointer (some ⟨K, o, none⟩), .int .i64 (pl : Int), undef, undef, .pointer (some ⟨w.heap.size, 0, none⟩), undef, .pointer (some ⟨Wc.heap.size, 0, none⟩), .pointer (some ⟨K, o, none⟩), .int .i64 (pl : Int), .func (.func 69) #[] #[.pointer (some ⟨w.heap.size + 1, 0, none⟩), .pointer (some ⟨w.heap.size + 1 + 1, 0, none⟩)], .int .i64 (e.1 : Int), .agg #[.string e.2.1, .int .u64 e.2.2.1, .bool e.2.2.2.1, .string e.2.2.2.2], undef, undef], defers := [] })
    (fun e a' Wc W' h => by rw [h.1]; exact (Below.refl _ _).alloc (Nat.le_refl _) _) ?assign ?body ?done ?stop
  case assign =>
    rintro l_ ⟨ep, ek, es_, ed, ev⟩ es T Wc Kc hi hK
    simp only [encP]
    gi_wp2
    try exact hK _ _ ⟨rfl, rfl⟩
  case body =>
    rintro l_ ⟨ep, ek, es_, ed, ev⟩ es T a' Wc W' Wb hl1 hl2 ⟨ob, ho, hoc⟩ _ ⟨hnil, hka⟩ hz hN9 ⟨rfl, rfl⟩ hg
    dsimp only at *
    have e0 : Wb.heap[Wc.heap.size]? = some (.cells #[.string ek, .int .u64 es_, .bool ed, .string ev] 30) := (hg.block _ (by simp) (fun e => by cases e; omega)).trans (World.alloc_heap_new _ _)
    have c0 : Wb.cell? ⟨Wc.heap.size, 0, none⟩ = some (.string ek) := by rw [cell_of_obj e0]; rfl
    have r0 := hka.c
    have f0 := hka.f
    have HKA : Hid (Ka w ⟨#[]⟩ Wb ∧ es = []) := ⟨hka, hnil⟩
    clear hka hnil hz hN9 hg ho hoc e0
    gi_wp2
    refine ⟨T, ⟨rfl, (ep, ek, es_, ed, ev), by rw [HKA.out.2]; rfl, World.cell?_setCell_same _ _ _ r0, by rw [World.frozen?_setCell]; exact f0, HKA.out.1.bl.setCell (p := ⟨w.heap.size, 0, none⟩) (by simp) _⟩, (KeepsOthers.setCell _ _ _).from _⟩
  case done =>
    rintro D T W' hD ⟨hnil, hka⟩ hDd
    have HEQ : Hid (keyOf eb pl = ⟨#[]⟩) := keyOf_nil hnil
    have r0 := hka.c
    have f0 := hka.f
    have HKA : Hid (Ka w ⟨#[]⟩ W') := hka
    have HND : Hid (D ≠ w.heap.size) := by
      intro h
      obtain ⟨o, h1, h2⟩ := cells_of r0
      rw [← h, hDd] at h1; cases h1; cases h2
    clear hka hnil
    dsimp only
    gi_wp2
    refine leaves_marks (B0 := w.heap.size) [D] _ (by
      intro E hE
      rw [List.mem_singleton.1 hE]
      exact ⟨by omega, (Below.heap_setCell _ _ _ D (by simpa using HND.out)).trans hDd⟩) (by simp) (fun w' hb hk => ?_)
    have e0 : w'.cell? ⟨w.heap.size, 0, none⟩ = some (.string ⟨#[]⟩) := (World.cell?_of_block (a := ⟨w.heap.size, 0, none⟩) (hk _ (by simpa using fun h => HND.out h.symm))).trans (World.cell?_setCell_same _ _ _ r0)
    refine ⟨.string ⟨#[]⟩, ?_, by rw [HEQ.out], (HKA.out.bl.setCell (p := ⟨w.heap.size, 0, none⟩) (by simp) _).trans hb⟩
    clear hk hb
    simp [results, Tryd.results82, go_sem, e0]
  case stop =>
    rintro D c es T W' hD hpre ⟨rfl, x, rfl, hka⟩ hDd
    have HEQ : Hid (keyOf eb pl = x.2.1) := keyOf_wkp (es := []) hpre rfl
    have r0 := hka.c
    have HKA : Hid (Ka w x.2.1 W') := hka
    have HND : Hid (D ≠ w.heap.size) := by
      intro h
      obtain ⟨o, h1, h2⟩ := cells_of r0
      rw [← h, hDd] at h1; cases h1; cases h2
    clear hka
    dsimp only
    gi_wp2
    refine leaves_marks (B0 := w.heap.size) [D] _ (by
      intro E hE
      rw [List.mem_singleton.1 hE]
      exact ⟨by omega, hDd⟩) (by simp) (fun w' hb hk => ?_)
    have e0 : w'.cell? ⟨w.heap.size, 0, none⟩ = some (.string x.2.1) := (World.cell?_of_block (a := ⟨w.heap.size, 0, none⟩) (hk _ (by simpa using fun h => HND.out h.symm))).trans r0
    refine ⟨.string x.2.1, ?_, by rw [HEQ.out], HKA.out.bl.trans hb⟩
    clear hk hb
    simp [results, Tryd.results82, go_sem, e0]
theorem keyAt_any (w : World) (K o pl : Nat) (eb pb : List Nat) (hk : BlkZ w K o eb pb) (hpl : pl ≤ eb.length) :
    Calls Tryd.prog 82 #[.pointer (some ⟨K, o, none⟩), .int .i64 (pl : Int)] w fun e w' => e = .returned (.string (keyOf eb pl)) ∧ Below w.heap.size w w' := callsIn_wide.1 (keyAt_in w K o pl eb pb hk hpl)
end Qb
end Go.Proofs.YtkebbmdghnplmaaDoor
namespace Go.Proofs.YtkebbmdghnplmaaDoor
namespace Qb
open Go.RowKit Go.Shelf CMath Byt Laws Irw Crw Cod Qe
set_option linter.unusedVariables false
set_option linter.unusedSimpArgs false
set_option maxRecDepth 100000

/-- a world in which nothing from before has turned -/
structure Unb (w : World) where
  W : World
  ok : Below w.heap.size w W
theorem Unb.non (w : World) : Nonempty (Unb w) := ⟨⟨w, Below.refl _ _⟩⟩
theorem wp_region_unb {P : Program} {id : Nat} {Q : Exit → Act → World → Prop} {a : Act} {w : World} {l : List Oper} (hm : P.follows .mixedOrders = true) (hB : Region.lexB .any l.toArray = true)
    (h : wpQuiet P l.toArray (fun w' => ∃ V : Unb w, w' = V.W) (fun a' => ∀ w', Below w.heap.size w w' → Q .normal a' w') l a) : (Code.region id l.toArray true).wp P Q a w := by
  have e : (fun a' => ∀ w', Below w.heap.size w w' → Q .normal a' w') = (fun a' => ∀ w', (∃ V : Unb w, w' = V.W) → Q .normal a' w') := by
    funext a'
    exact propext ⟨fun k w' ⟨V, e⟩ => k w' (e ▸ V.ok), fun k w' hb => k w' ⟨⟨w', hb⟩, rfl⟩⟩
  rw [e] at h
  exact wp_region_quiet (C := fun w' => ∃ V : Unb w, w' = V.W) hm hB ⟨⟨w.drew, (Below.refl _ _).drew⟩, rfl⟩ (by simpa using h)
theorem Unb.cell {w : World} {p : Addr} {v : Value} (h : w.cell? p = some v) (V : Unb w) : V.W.cell? p = some v := (V.ok.cell (World.block_lt_of_cell? w _ h)).trans h
theorem Unb.call {P : Program} {f : Nat} {args : Array Value} {w : World} {V : Unb w} {v : Value} (h : Calls P f args V.W fun e w' => e = .returned v ∧ Below V.W.heap.size V.W w') : Calls P f args V.W fun e w'' => e = .returned v ∧ ∃ V' : Unb w, w'' = V'.W :=
  h.mono fun _ w' ⟨he, hb⟩ => ⟨he, ⟨w', V.ok.trans (hb.mono V.ok.size)⟩, rfl⟩
theorem binOp_string_gtr_q (t : TypeId) (a b : ByteArray) : binOp .gtr t (.string a) (.string b) = pure (.bool !(Op.bytesLess a.toList b.toList || a.toList == b.toList)) := by simp [binOp, Op.stringOp]
attribute [local go_sem] binOp_string_gtr_q
/-- Is the key at a restart point above a key? -/
def gtK (x y : ByteArray) : Bool := !(Op.bytesLess x.toList y.toList || x.toList == y.toList)
set_option maxHeartbeats 1000000 in
theorem restartForC_any (w : World) (Bk Bq K o i : Nat) (key : ByteArray) (eb pb : List Nat) (hk : BlkZ w K o eb pb)
    (hBk : w.cell? ⟨Bk, 0, none⟩ = some (.pointer (some ⟨K, o, none⟩))) (hBq : w.cell? ⟨Bq, 0, none⟩ = some (.string key)) (hi : 4 * i + 4 ≤ pb.length) (hpl : val ((pb.drop (4 * i)).take 4) ≤ eb.length) :
    Calls Tryd.prog 81 #[.int .i64 (i : Int), .pointer (some ⟨Bk, 0, none⟩), .pointer (some ⟨Bq, 0, none⟩)] w fun e w' => e = .returned (.bool (gtK (keyOf eb (val ((pb.drop (4 * i)).take 4))) key)) ∧ Below w.heap.size w w' := by
  have HK : Hid (BlkZ w K o eb pb) := hk
  have HP : Hid (∀ V : Unb w, Calls Tryd.prog 68 #[.pointer (some ⟨K, o, none⟩), .int .i64 (i : Int)] V.W fun e w' => e = .returned (.int .i64 ((val ((pb.drop (4 * i)).take 4) : Nat) : Int)) ∧ Below V.W.heap.size V.W w') := fun V => by
    obtain ⟨a', c', ce', hie', hec', hc', _⟩ := (HK.out.below V.ok).pla
    exact (place_any V.W K o a' pb pb.length c' i ce' hie' rfl hec' hc'.1 hi hc'.2).mono fun e w' ⟨h1, h2⟩ => ⟨h1, by rw [h2]; exact Below.refl _ _⟩
  have HQ : Hid (∀ V : Unb w, Calls Tryd.prog 82 #[.pointer (some ⟨K, o, none⟩), .int .i64 ((val ((pb.drop (4 * i)).take 4) : Nat) : Int)] V.W fun e w' => e = .returned (.string (keyOf eb (val ((pb.drop (4 * i)).take 4)))) ∧ Below V.W.heap.size V.W w') := fun V => keyAt_any V.W K o _ eb pb (HK.out.below V.ok) hpl
  clear hk hi hpl
  generalize keyOf eb (val ((pb.drop (4 * i)).take 4)) = kk at *
  generalize val ((pb.drop (4 * i)).take 4) = pl at *
  unfold gtK
  go_enter Tryd.func81, Tryd.ntmps81
  go_wp2
  refine wp_region_unb (by kernel_rfl) (by kernel_rfl) ?_
  have hne9 := Unb.non w
  have U0 := Unb.cell hBk
  have U1 := Unb.cell hBq
  repeat (go_big_quiet_step (first | (go_at_call 68; exact Unb.call (HP.out _)) | (go_at_call 82; exact Unb.call (HQ.out _))))
  refine wpQuiet_nil ?_
  intro wA hb9
  have HB9 : Hid (Below w.heap.size w wA) := hb9
  clear hb9 U0 U1 hne9
  go_wp2
  go_ret
  exact ⟨by simp, HB9.out⟩
set_option maxHeartbeats 4000000 in
theorem search_any (g : Nat) (cb : Array Value) (n : Nat) (p : Nat → Bool) (w : World) (eg : ∀ args w, (callFunc g args).run Tryd.prog w = .ok (.enter g args) w) (hsz : n < 4611686018427387904)
    (hf : ∀ (W : World) (i : Nat), Below w.heap.size w W → i < n → Calls Tryd.prog g (#[.int .i64 i] ++ cb) W fun e w' => e = .returned (.bool (p i)) ∧ Below W.heap.size W w')
    (hmono : ∀ a b, a ≤ b → b < n → p a = true → p b = true) :
    Calls Tryd.prog 80 #[.int .i64 n, .func (.func g) #[] cb] w fun e w' => ∃ m : Nat, e = .returned (.int .i64 (m : Int)) ∧ m ≤ n ∧ (∀ t, t < m → p t = false) ∧ (∀ t, m ≤ t → t < n → p t = true) ∧ Below w.heap.size w w' := by
  have HF : Hid (∀ (W : World) (i : Nat), Below w.heap.size w W → i < n → Calls Tryd.prog g (#[.int .i64 i] ++ cb) W fun e w' => e = .returned (.bool (p i)) ∧ Below W.heap.size W w') := hf
  have M : Hid (∀ a b, a ≤ b → b < n → p a = true → p b = true) := hmono
  clear hf hmono
  go_enter Tryd.func80, Tryd.ntmps80
  go_wp2
  go_loopw [5, 6] (fun s5 s6 wr => ∃ (lo hi : Nat), s5 = .int .i64 lo ∧ s6 = .int .i64 hi ∧ lo ≤ hi ∧ hi ≤ n ∧ Hid (Below w.heap.size w wr ∧ (∀ t, t < lo → p t = false) ∧ (∀ t, hi ≤ t → t < n → p t = true))) (fun a b _ => (intOf b).toNat - (intOf a).toNat)
  case atStart => exact ⟨0, n, rfl, rfl, Nat.zero_le _, Nat.le_refl _, Below.refl _ _, fun t ht => absurd ht (Nat.not_lt_zero _), fun t h1 h2 => by omega⟩
  case round =>
    obtain ⟨lo, hi, rfl, rfl, hlh, hin, I⟩ := hrel
    by_cases hlt : lo < hi
    · have hc := HF.out wr ((lo + hi) / 2) I.out.1 (by omega)
      rw [show (((lo + hi) / 2 : Nat) : Int) = ((lo : Int) + (hi : Int)) / 2 by omega] at hc
      cases hp : p ((lo + hi) / 2) <;> rw [hp] at hc
      · have HP : Hid (p ((lo + hi) / 2) = false) := hp
        clear hp
        go_wp2_with (go_at_fn g; refine hc.mono ?_; rintro e w' ⟨rfl, hbw⟩; have HBW : Hid (Below wr.heap.size wr w') := hbw; clear hbw)
        go_roundw
        case measure => simp [intOf]; omega
        case rel =>
          exact ⟨(lo + hi) / 2 + 1, hi, by rw [show ((lo : Int) + (hi : Int)) / 2 + 1 = (((lo + hi) / 2 + 1 : Nat) : Int) by omega], rfl, by omega, hin, I.out.1.trans (HBW.out.mono I.out.1.size), fun t ht => (by
            cases h : p t with
            | false => rfl
            | true => have := M.out t ((lo + hi) / 2) (by omega) (by omega) h; rw [HP.out] at this; cases this), I.out.2.2⟩
      · have HP : Hid (p ((lo + hi) / 2) = true) := hp
        clear hp
        go_wp2_with (go_at_fn g; refine hc.mono ?_; rintro e w' ⟨rfl, hbw⟩; have HBW : Hid (Below wr.heap.size wr w') := hbw; clear hbw)
        go_roundw
        case measure => simp [intOf]; omega
        case rel =>
          exact ⟨lo, (lo + hi) / 2, rfl, by rw [show ((lo : Int) + (hi : Int)) / 2 = (((lo + hi) / 2 : Nat) : Int) by omega], by omega, by omega, I.out.1.trans (HBW.out.mono I.out.1.size), I.out.2.1, fun t ht htn => M.out ((lo + hi) / 2) t ht htn HP.out⟩
    · obtain rfl : hi = lo := by omega
      go_wp2
      go_ret
      exact ⟨hi, rfl, hin, I.out.2.1, I.out.2.2, I.out.1⟩
end Qb
end Go.Proofs.YtkebbmdghnplmaaDoor
namespace Go.Proofs.YtkebbmdghnplmaaDoor
namespace Qb
open Go.RowKit CMath Byt Laws Irw Crw Cod
set_option linter.unusedVariables false
set_option linter.unusedSimpArgs false
set_option maxRecDepth 20000

/-- How many restart points there are. -/
def mres (r : Nat) : Nat → Nat
  | 0 => 0
  | n + 1 => mres r n + if n % r = 0 then 1 else 0
theorem mres_lt {r : Nat} (hr : 1 ≤ r) : ∀ n i, r * i < n ↔ i < mres r n := by
  intro n
  induction n with
  | zero => intro i; simp [mres]
  | succ n ih =>
    intro i
    rw [mres]
    by_cases hz : n % r = 0
    · rw [if_pos hz]
      have hq : r * (n / r) = n := by have := Nat.div_add_mod n r; omega
      have hm : mres r n = n / r := by
        have h1 := ih (n / r)
        have h2 : ¬ n / r < mres r n := fun h => by have := h1.2 h; omega
        by_cases h3 : mres r n < n / r
        · exfalso
          have h4 : ¬ (r * mres r n < n) := fun h => by have := (ih _).1 h; omega
          apply h4
          calc r * mres r n < r * (n / r) := Nat.mul_lt_mul_of_pos_left h3 (by omega)
            _ = n := hq
        · omega
      constructor
      · intro h
        rw [hm]
        rcases Nat.lt_or_ge i (n / r + 1) with h1 | h1
        · exact h1
        · exfalso
          have : r * (n / r + 1) ≤ r * i := Nat.mul_le_mul_left r h1
          rw [Nat.mul_add, hq] at this
          omega
      · intro h
        rw [hm] at h
        have : r * i ≤ r * (n / r) := Nat.mul_le_mul_left r (by omega)
        omega
    · rw [if_neg hz, show mres r n + 0 = mres r n from rfl, ← ih i]
      constructor
      · intro h
        rcases Nat.lt_or_ge (r * i) n with h1 | h1
        · exact h1
        · exfalso
          have : n = r * i := by omega
          rw [this, Nat.mul_mod_right] at hz
          exact hz rfl
      · intro h; omega
theorem mres_at {r n : Nat} (hr : 1 ≤ r) (hz : n % r = 0) : r * mres r n = n := by
  have hq : r * (n / r) = n := by have := Nat.div_add_mod n r; omega
  have hm : mres r n = n / r := by
    have h2 : ¬ n / r < mres r n := fun h => by have := (mres_lt hr n (n / r)).2 h; omega
    by_cases h3 : mres r n < n / r
    · exfalso
      have h4 : ¬ (r * mres r n < n) := fun h => by have := (mres_lt hr n _).1 h; omega
      apply h4
      calc r * mres r n < r * (n / r) := Nat.mul_lt_mul_of_pos_left h3 (by omega)
        _ = n := hq
    · omega
  rw [hm, hq]
/-- The places of the restart points. -/
theorem places {r : Nat} (hr : 1 ≤ r) (l : List En) : (pushes r st0 l).p.length = 4 * mres r l.length ∧ ∀ i, r * i < l.length → ((pushes r st0 l).p.drop (4 * i)).take 4 = four (pushes r st0 (l.take (r * i))).b.length := by
  rcases List.eq_nil_or_concat l with rfl | ⟨l', e, rfl⟩
  · exact ⟨rfl, fun i h => by simp at h⟩
  · rw [List.concat_eq_append]
    have ih := places hr l'
    have hn : (pushes r st0 l').n = l'.length := by rw [pushes_n]; show 0 + _ = _; omega
    have hp : (pushes r st0 (l' ++ [e])).p = plc r (pushes r st0 l') := by rw [pushes_snoc]; rfl
    rw [hp]
    unfold plc
    rw [hn, List.length_append, List.length_singleton, mres]
    by_cases hz : l'.length % r = 0
    · rw [if_pos hz, if_pos hz]
      refine ⟨by rw [List.length_append, ih.1, four_len]; omega, fun i hi => ?_⟩
      have hm := mres_at hr hz
      rcases Nat.lt_or_ge (r * i) l'.length with h1 | h1
      · have h2 := (mres_lt hr l'.length i).1 h1
        rw [List.drop_append_of_le_length (by rw [ih.1]; omega), List.take_append_of_le_length (by rw [List.length_drop, ih.1]; omega), ih.2 i h1, List.take_append_of_le_length (by omega)]
      · have hii : r * i = l'.length := by omega
        have hi2 : i = mres r l'.length := Nat.eq_of_mul_eq_mul_left (by omega) (hii.trans hm.symm)
        have : 4 * i = (pushes r st0 l').p.length := by rw [ih.1, hi2]
        rw [this, List.drop_left, hii, List.take_left]
        rfl
    · rw [if_neg hz, if_neg hz]
      refine ⟨by rw [ih.1]; omega, fun i hi => ?_⟩
      have h1 : r * i < l'.length := by
        rcases Nat.lt_or_ge (r * i) l'.length with h1 | h1
        · exact h1
        · exfalso
          have : l'.length = r * i := by omega
          rw [this, Nat.mul_mod_right] at hz
          exact hz rfl
      rw [ih.2 i h1, List.take_append_of_le_length (by omega)]
termination_by l.length
decreasing_by simp_all
/-- What is given from a restart point on. -/
theorem wk_from {r : Nat} {l : List En} (hok : ∀ e ∈ l, Ok e ∧ 0 ≤ e.2.1) {k : Nat} (hk : k ≤ l.length) (hz : k % r = 0) : (pushes r st0 (l.take k)).b.length ≤ (pushes r st0 l).b.length ∧ (wk ((pushes r st0 l).b.drop (pushes r st0 (l.take k)).b.length) []).map Prod.fst = l.drop k := by
  have e1 : pushes r st0 l = pushes r (pushes r st0 (l.take k)) (l.drop k) := by rw [← pushes_app, List.take_append_drop]
  have hn : (pushes r st0 (l.take k)).n = k := by rw [pushes_n, List.length_take]; show 0 + _ = _; omega
  have e2 := pushes_b r (l.drop k) (pushes r st0 (l.take k))
  rw [hn, ← e1] at e2
  rw [e2]
  refine ⟨by rw [List.length_append]; omega, ?_⟩
  rw [List.drop_left, wk_tl r _ (fun e he => hok e (List.mem_of_mem_drop he)) k _ [] (.inr hz), szs_map]
theorem mul_mod0 (r i : Nat) : (r * i) % r = 0 := Nat.mul_mod_right r i
/-- Keys rise. -/
theorem chain_all {l : List En} : ∀ {last : ByteArray}, chain last l → ∀ e ∈ l, Op.bytesLess last.toList e.1.toList = true := by
  induction l with
  | nil => intro last _ e he; simp at he
  | cons x l ih =>
    intro last h e he
    have hx : Op.bytesLess last.toList x.1.toList = true := by
      have := (adds_ok h.1).2
      rw [← Lib.toList_data, ← Lib.toList_data] at this
      exact this
    rcases List.mem_cons.1 he with rfl | he
    · exact hx
    · exact KMath.bl_trans _ _ _ hx (ih h.2 e he)
theorem chain_lt {l : List En} : ∀ {last : ByteArray}, chain last l → ∀ (i j : Nat) (x y : En), l[i]? = some x → l[j]? = some y → i < j → Op.bytesLess x.1.toList y.1.toList = true := by
  induction l with
  | nil => intro last _ i j x y hx; simp at hx
  | cons z l ih =>
    intro last h i j x y hx hy hij
    cases j with
    | zero => omega
    | succ j =>
      have hy' : l[j]? = some y := by simpa using hy
      cases i with
      | zero =>
        have : z = x := by simpa using hx
        subst this
        exact chain_all h.2 y (List.mem_of_getElem? hy')
      | succ i => exact ih h.2 i j x y (by simpa using hx) hy' (by omega)
/-- What Seek finds. -/
def skE (l : List En) (key : ByteArray) : Option En := l.find? (fun e => !Op.bytesLess e.1.toList key.toList)
theorem skE_drop {l : List En} {key : ByteArray} {k : Nat} (h : ∀ i x, i < k → l[i]? = some x → Op.bytesLess x.1.toList key.toList = true) : skE (l.drop k) key = skE l key := by
  unfold skE
  conv => rhs; rw [← List.take_append_drop k l]
  rw [List.find?_append]
  have : (l.take k).find? (fun e => !Op.bytesLess e.1.toList key.toList) = none := by
    rw [List.find?_eq_none]
    intro x hx
    obtain ⟨i, hi, e⟩ := List.mem_iff_getElem.1 hx
    have hi' : i < k ∧ i < l.length := by rw [List.length_take] at hi; omega
    rw [h i x hi'.1 (by rw [List.getElem_take] at e; rw [← e]; exact List.getElem?_eq_getElem hi'.2)]
    simp
  rw [this]
  rfl
end Qb
end Go.Proofs.YtkebbmdghnplmaaDoor
namespace Go.Proofs.YtkebbmdghnplmaaDoor
namespace Qb
open Go.RowKit Go.Shelf CMath Byt Laws Irw Crw Cod Qe
set_option linter.unusedVariables false
set_option linter.unusedSimpArgs false
set_option maxRecDepth 100000

/-- A restart point's place, and the key there. -/
theorem at_restart {r : Nat} {l : List En} (hr : 1 ≤ r) (hok : ∀ e ∈ l, Ok e ∧ 0 ≤ e.2.1) (hb : (pushes r st0 l).b.length < 4294967296) {i : Nat} (hi : r * i < l.length) :
    4 * i + 4 ≤ (pushes r st0 l).p.length ∧ val (((pushes r st0 l).p.drop (4 * i)).take 4) = (pushes r st0 (l.take (r * i))).b.length ∧ (pushes r st0 (l.take (r * i))).b.length ≤ (pushes r st0 l).b.length ∧ ∃ x, l[r * i]? = some x ∧ keyOf (pushes r st0 l).b (pushes r st0 (l.take (r * i))).b.length = x.1 := by
  have hp := places hr l
  have hm := (mres_lt hr l.length i).1 hi
  have hw := wk_from hok (Nat.le_of_lt hi) (mul_mod0 r i)
  refine ⟨by rw [hp.1]; omega, ?_, hw.1, ?_⟩
  · rw [hp.2 i hi]
    exact four_val (Nat.lt_of_le_of_lt hw.1 hb)
  · have hx : l[r * i]? = some (l[r * i]'hi) := List.getElem?_eq_getElem hi
    refine ⟨_, hx, ?_⟩
    have h2 := hw.2
    rw [List.drop_eq_getElem_cons hi] at h2
    unfold keyOf
    cases hwk : wk ((pushes r st0 l).b.drop (pushes r st0 (l.take (r * i))).b.length) [] with
    | nil => rw [hwk] at h2; cases h2
    | cons y t =>
      rw [hwk] at h2
      simp only [List.map_cons, List.cons.injEq] at h2
      show y.1.1 = _
      rw [h2.1]
theorem gtK_lt {x y : ByteArray} (h : Op.bytesLess y.toList x.toList = true) : gtK x y = true := by
  unfold gtK
  rw [KMath.bl_asymm _ _ h]
  have : (x.toList == y.toList) = false := by
    rw [beq_eq_false_iff_ne]; intro e; rw [e, KMath.bl_irrefl] at h; cases h
  rw [this]; rfl
theorem gtK_is {x y : ByteArray} (h : gtK x y = true) : Op.bytesLess y.toList x.toList = true := by
  unfold gtK at h
  simp only [Bool.not_eq_true', Bool.or_eq_false_iff] at h
  cases hb : Op.bytesLess y.toList x.toList with
  | true => rfl
  | false =>
    have := KMath.bl_tri _ _ h.1 hb
    rw [this] at h
    simp at h
theorem gtK_no {x y : ByteArray} (h : gtK x y = false) {z : ByteArray} (hz : Op.bytesLess z.toList x.toList = true) : Op.bytesLess z.toList y.toList = true := by
  cases hb : Op.bytesLess x.toList y.toList with
  | true => exact KMath.bl_trans _ _ _ hz hb
  | false =>
    cases hb2 : Op.bytesLess y.toList x.toList with
    | true => rw [gtK_lt hb2] at h; cases h
    | false => rw [← KMath.bl_tri _ _ hb hb2]; exact hz
def RfIs (w : World) (r : Nat) (l : List En) (key : ByteArray) (e : Ending) (w' : World) : Prop := ∃ k pl, e = .returned (.int .i64 ((pl : Nat) : Int)) ∧ pl = (pushes r st0 (l.take k)).b.length ∧ k ≤ l.length ∧ k % r = 0 ∧ (∀ i x, i < k → l[i]? = some x → Op.bytesLess x.1.toList key.toList = true) ∧ Below w.heap.size w w'
set_option maxHeartbeats 1000000 in
theorem restartFor_any (w : World) (K o r : Nat) (l : List En) (key : ByteArray) (hr : 1 ≤ r) (hk : BlkZ w K o (pushes r st0 l).b (pushes r st0 l).p) (hc : chain ⟨#[]⟩ l) (h0 : ∀ e ∈ l, 0 ≤ e.2.1) (hb : (pushes r st0 l).b.length < 4294967296) (hp : (pushes r st0 l).p.length ≤ 1000000000000) :
    Calls Tryd.prog 44 #[.pointer (some ⟨K, o, none⟩), .string key] w fun e w' => RfIs w r l key e w' := by
  have hok : ∀ e ∈ l, Ok e ∧ 0 ≤ e.2.1 := fun e he => ⟨chain_ok hc e he, h0 e he⟩
  have hpl := places hr l
  have hn : (pushes r st0 l).p.length / 4 = mres r l.length := by rw [hpl.1]; omega
  have hmf : ∀ (fn : Fn) (first cap : Array Value) (w : World), (Instr.makeFunc fn first cap).run Tryd.prog w = .ok (.func fn first cap) w := fun _ _ _ _ => rfl
  obtain ⟨W1, hW1⟩ : ∃ W1, W1 = (w.alloc (.cells #[.pointer (some ⟨K, o, none⟩)] 39)).alloc (.cells #[.string key] 9) := ⟨_, rfl⟩
  have hb1 : Below w.heap.size w W1 := by rw [hW1]; exact ((Below.refl _ _).alloc (Nat.le_refl _) _).alloc (by simp) _
  have c1 : W1.cell? ⟨w.heap.size, 0, none⟩ = some (.pointer (some ⟨K, o, none⟩)) := by rw [hW1]; simp
  have c2 : W1.cell? ⟨w.heap.size + 1, 0, none⟩ = some (.string key) := by rw [hW1]; simp
  have HK1 : Hid (BlkZ W1 K o (pushes r st0 l).b (pushes r st0 l).p) := hk.below hb1
  obtain ⟨a', c', ce', hie', hec', hc', _⟩ := HK1.out.pla
  have HR : Hid (Calls Tryd.prog 67 #[.pointer (some ⟨K, o, none⟩)] W1 fun e w' => e = .returned (.int .i64 ((mres r l.length : Nat) : Int)) ∧ w' = W1) := by
    have := restarts_any W1 K o a' _ c' ce' hp
    rw [hn] at this
    exact this
  have HF : Hid (∀ (W : World) (i : Nat), Below W1.heap.size W1 W → i < mres r l.length → Calls Tryd.prog 81 (#[.int .i64 (i : Int)] ++ #[.pointer (some ⟨w.heap.size, 0, none⟩), .pointer (some ⟨w.heap.size + 1, 0, none⟩)]) W fun e w' => e = .returned (.bool (gtK (keyOf (pushes r st0 l).b (val (((pushes r st0 l).p.drop (4 * i)).take 4))) key)) ∧ Below W.heap.size W w') := fun W i hbW hi => by
    have hi' := (mres_lt hr l.length i).2 hi
    obtain ⟨q1, q2, q3, _⟩ := at_restart hr hok hb hi'
    exact restartForC_any W _ _ K o i key _ _ (HK1.out.below hbW) ((hbW.cell (p := ⟨w.heap.size, 0, none⟩) (World.block_lt_of_cell? W1 _ c1)).trans c1) ((hbW.cell (p := ⟨w.heap.size + 1, 0, none⟩) (World.block_lt_of_cell? W1 _ c2)).trans c2) q1 (by rw [q2]; exact q3)
  have key_at : ∀ i, i < mres r l.length → ∃ x, l[r * i]? = some x ∧ keyOf (pushes r st0 l).b (val (((pushes r st0 l).p.drop (4 * i)).take 4)) = x.1 := fun i hi => by
    obtain ⟨_, q2, _, x, q3, q4⟩ := at_restart hr hok hb ((mres_lt hr l.length i).2 hi)
    exact ⟨x, q3, by rw [q2]; exact q4⟩
  have hml : mres r l.length < 4611686018427387904 := by omega
  have HS : Hid (Calls Tryd.prog 80 #[.int .i64 (mres r l.length : Nat), .func (.func 81) #[] #[.pointer (some ⟨w.heap.size, 0, none⟩), .pointer (some ⟨w.heap.size + 1, 0, none⟩)]] W1 fun e w' => ∃ m : Nat, e = .returned (.int .i64 (m : Int)) ∧ m ≤ mres r l.length ∧ (∀ t, t < m → gtK (keyOf (pushes r st0 l).b (val (((pushes r st0 l).p.drop (4 * t)).take 4))) key = false) ∧ (∀ t, m ≤ t → t < mres r l.length → gtK (keyOf (pushes r st0 l).b (val (((pushes r st0 l).p.drop (4 * t)).take 4))) key = true) ∧ Below W1.heap.size W1 w') := by
    refine search_any 81 _ _ (fun i => gtK (keyOf (pushes r st0 l).b (val (((pushes r st0 l).p.drop (4 * i)).take 4))) key) W1 (enters_of Tryd.func81 (by kernel_rfl) rfl) hml HF.out (fun a b hab hbn hpa => ?_)
    obtain ⟨x, hx, ex⟩ := key_at a (by omega)
    obtain ⟨y, hy, ey⟩ := key_at b hbn
    rw [ex] at hpa
    rw [ey]
    have h1 := gtK_is hpa
    rcases Nat.lt_or_ge a b with hlt | hge
    · exact gtK_lt (KMath.bl_trans _ _ _ h1 (chain_lt hc (r * a) (r * b) x y hx hy (Nat.mul_lt_mul_of_pos_left hlt (by omega))))
    · have : a = b := by omega
      subst this
      rw [hx] at hy; cases hy
      exact gtK_lt h1
  have HPL : Hid (∀ (m : Nat) (W : World), m < mres r l.length → Below W1.heap.size W1 W → Calls Tryd.prog 68 #[.pointer (some ⟨K, o, none⟩), .int .i64 (m : Int)] W fun e w' => e = .returned (.int .i64 (((pushes r st0 (l.take (r * m))).b.length : Nat) : Int)) ∧ w' = W) := fun m W hm hbW => by
    obtain ⟨q1, q2, q3, _⟩ := at_restart hr hok hb ((mres_lt hr l.length m).2 hm)
    obtain ⟨a2, c2', ce2, hie2, hec2, hc2, _⟩ := (HK1.out.below hbW).pla
    have := place_any W K o a2 _ _ c2' m ce2 hie2 rfl hec2 hc2.1 q1 hp
    rw [q2] at this
    exact this
  have HKA : Hid (∀ i, i < mres r l.length → ∃ x, l[r * i]? = some x ∧ keyOf (pushes r st0 l).b (val (((pushes r st0 l).p.drop (4 * i)).take 4)) = x.1) := key_at
  have HCH : Hid (chain ⟨#[]⟩ l ∧ 1 ≤ r) := ⟨hc, hr⟩
  have HB1 : Hid (Below w.heap.size w W1) := hb1
  have HPM : Hid (mres r l.length ≤ 1000000000000 ∧ ∀ i, i < mres r l.length → r * i ≤ l.length) := ⟨by show _ ≤ _; omega, fun i hi => Nat.le_of_lt ((mres_lt hr l.length i).2 hi)⟩
  clear hk hc h0 hb hp hok hpl hn ce' hie' hec' hc' HF key_at hr hb1 HK1
  generalize hNN : mres r l.length = NN at *
  clear hNN
  subst hW1
  have HC1 : Hid (((w.alloc (.cells #[.pointer (some ⟨K, o, none⟩)] 39)).alloc (.cells #[.string key] 9)).cell? ⟨w.heap.size, 0, none⟩ = some (.pointer (some ⟨K, o, none⟩))) := c1
  clear c1 c2
  have hnn : NN ≤ 1000000000000 := HPM.out.1
  clear hml
  go_enter Tryd.func44, Tryd.ntmps44
  go_wp2_with (go_at_call 67; go_loud (refine HR.out.mono ?_; rintro e w1 ⟨rfl, hw⟩; have hw2 := hw.symm; clear hw; subst hw2))
  refine HS.out.mono ?_
  rintro e w2 ⟨m, rfl, hm, hlo, hhi, hb2⟩
  have HLO : Hid (∀ t, t < m → gtK (keyOf (pushes r st0 l).b (val (((pushes r st0 l).p.drop (4 * t)).take 4))) key = false) := hlo
  have HB2 : Hid (Below ((w.alloc (.cells #[.pointer (some ⟨K, o, none⟩)] 39)).alloc (.cells #[.string key] 9)).heap.size ((w.alloc (.cells #[.pointer (some ⟨K, o, none⟩)] 39)).alloc (.cells #[.string key] 9)) w2) := hb2
  have c2 := (hb2.cell (p := ⟨w.heap.size, 0, none⟩) (World.block_lt_of_cell? _ _ HC1.out)).trans HC1.out
  clear hlo hhi hb2
  dsimp only
  rcases m with _ | q
  · go_wp2
    go_ret
    exact ⟨0, 0, rfl, rfl, Nat.zero_le _, Nat.zero_mod _, fun i x hi => by omega, HB1.out.trans (HB2.out.mono HB1.out.size)⟩
  · have HQ := HPL.out q w2 (by omega) HB2.out
    have HQH : Hid (Calls Tryd.prog 68 #[.pointer (some ⟨K, o, none⟩), .int .i64 (q : Int)] w2 fun e w' => e = .returned (.int .i64 (((pushes r st0 (l.take (r * q))).b.length : Nat) : Int)) ∧ w' = w2) := HQ
    clear HQ
    have HQN : Hid (q < NN) := by show _ < _; omega
    have hq1 : ¬ (((q + 1 : Nat) : Int) = 0) := by omega
    have hq2 : (((q + 1 : Nat) : Int) == 0) = false := by simpa using hq1
    have hq3 : (((q + 1 : Nat) : Int)) = (q : Int) + 1 := by omega
    rw [hq3] at hq2 hq1 ⊢
    have hq4 : (q : Int) ≤ 1000000000000 := by omega
    clear hq3 hm
    go_wp2_with (go_at_call 68; go_loud (refine HQH.out.mono ?_; rintro e w1 ⟨rfl, hw⟩; have hw2 := hw.symm; clear hw; subst hw2))
    go_ret
    refine ⟨r * q, _, rfl, rfl, HPM.out.2 q HQN.out, mul_mod0 r q, fun i x hi hx => ?_, HB1.out.trans (HB2.out.mono HB1.out.size)⟩
    obtain ⟨y, hy, ey⟩ := HKA.out q HQN.out
    have h1 := HLO.out q (by omega)
    rw [ey] at h1
    exact gtK_no h1 (chain_lt HCH.out.1 i (r * q) x y hx hy hi)
end Qb
end Go.Proofs.YtkebbmdghnplmaaDoor
namespace Go.Proofs.YtkebbmdghnplmaaDoor
namespace Qb
open Go
variable {F : Fence} {n : Nat} {P : Program} {Q : Exit → Act → World → Prop} {a : Act} {w : World}

theorem stepR_scope {c : Code} {b : Frame} {k : List Item} {cs : List Frame} : step P (lone (b.atR a (.code (.scope c) :: k)) cs w) = .next (lone (b.atR a (.code c :: .inScope c :: k)) cs w) :=
  step_lone_go (by simp [stepG, stepG.exec, Frame.atR])
theorem stepR_inScope {c : Code} {b : Frame} {k : List Item} {cs : List Frame} : step P (lone (b.atR a (.inScope c :: k)) cs w) = .next (lone (b.atR a k) cs w) :=
  step_lone_go (by simp [stepG, stepG.exec, Frame.atR])
/-- A scope through which the run goes without a jump, in a fence. -/
theorem wpIn_scope {c : Code} (h : c.wpIn F n P (Exit.noGoto Q) a w) : (Code.scope c).wpIn F n P Q a w := by
  intro b k cs hro hb hr
  have h0 : (lone (b.atR a (.code (.scope c) :: k)) cs w).fenced P F := fenced_calm hb hr rfl
  obtain ⟨e, a₁, w₁, hq, harr⟩ := h b (.inScope c :: k) cs hro hb hr
  cases e with
  | normal => exact ⟨.normal, a₁, w₁, hq, .head h0 stepR_scope (StepsIn.trans harr (.one (fenced_calm hb hr rfl) stepR_inScope))⟩
  | exit id' =>
    have hx : exitTo id' (.inScope c :: k) = exitTo id' k := by simp [exitTo]
    exact ⟨.exit id', a₁, w₁, hq, fun k' hk => .head h0 stepR_scope (harr.1 k' (by rw [hx]; exact hk)),
        fun hr' hk => let ⟨k₁, h1, h2⟩ := harr.2 hr' (by rw [hx]; exact hk); ⟨k₁, h1, .head h0 stepR_scope h2⟩⟩
  | goto l => exact hq.elim
  | ret => exact ⟨_, a₁, w₁, hq, .of_steps (.one h0 stepR_scope) harr⟩
  | panic ch => exact ⟨_, a₁, w₁, hq, .of_steps (.one h0 stepR_scope) harr⟩
  | outgrown => exact ⟨_, a₁, w₁, hq, .of_steps (.one h0 stepR_scope) harr⟩
end Qb
end Go.Proofs.YtkebbmdghnplmaaDoor
namespace Go.Proofs.YtkebbmdghnplmaaDoor
namespace Qb
open Go.RowKit Go.Shelf CMath Byt Laws Irw Crw Cod Qe
set_option linter.unusedVariables false
set_option linter.unusedSimpArgs false
set_option maxRecDepth 100000
attribute [local go_sem] Oper.semAt_some

/-- where the loop of Seek stands: what was found -/
structure Sx (w : World) (key : ByteArray) (f : En) (ok : Bool) (W : World) : Prop where
  k : W.cell? ⟨w.heap.size, 0, none⟩ = some (.string key)
  r0 : W.cell? ⟨w.heap.size + 1, 0, none⟩ = some (.string ⟨#[]⟩)
  r1 : W.cell? ⟨w.heap.size + 1, 1, none⟩ = some (.int .u64 0)
  r2 : W.cell? ⟨w.heap.size + 1, 2, none⟩ = some (.bool false)
  r3 : W.cell? ⟨w.heap.size + 1, 3, none⟩ = some (.string ⟨#[]⟩)
  f0 : W.cell? ⟨w.heap.size + 2, 0, none⟩ = some (.string f.1)
  f1 : W.cell? ⟨w.heap.size + 2, 1, none⟩ = some (.int .u64 f.2.1)
  f2 : W.cell? ⟨w.heap.size + 2, 2, none⟩ = some (.bool f.2.2.1)
  f3 : W.cell? ⟨w.heap.size + 2, 3, none⟩ = some (.string f.2.2.2)
  b : W.cell? ⟨w.heap.size + 3, 0, none⟩ = some (.bool ok)
  z1 : ∀ j, W.frozen? ⟨w.heap.size + 1, j, none⟩ = false
  z2 : ∀ j, W.frozen? ⟨w.heap.size + 2, j, none⟩ = false
  z3 : ∀ j, W.frozen? ⟨w.heap.size + 3, j, none⟩ = false
  bl : Below w.heap.size w W
theorem Sx.same {w W W' : World} {key : ByteArray} {f : En} {ok : Bool} (h : Sx w key f ok W) (hk : ∀ b, w.heap.size ≤ b → b < w.heap.size + 4 → W'.heap[b]? = W.heap[b]?) (hb : Below w.heap.size w W') : Sx w key f ok W' := by
  have k0 := hk (w.heap.size) (by omega) (by omega)
  have k1 := hk (w.heap.size + 1) (by omega) (by omega)
  have k2 := hk (w.heap.size + 2) (by omega) (by omega)
  have k3 := hk (w.heap.size + 3) (by omega) (by omega)
  exact ⟨(World.cell?_of_block (a := ⟨w.heap.size, 0, none⟩) k0).trans h.k, (World.cell?_of_block (a := ⟨w.heap.size + 1, 0, none⟩) k1).trans h.r0, (World.cell?_of_block (a := ⟨w.heap.size + 1, 1, none⟩) k1).trans h.r1, (World.cell?_of_block (a := ⟨w.heap.size + 1, 2, none⟩) k1).trans h.r2, (World.cell?_of_block (a := ⟨w.heap.size + 1, 3, none⟩) k1).trans h.r3, (World.cell?_of_block (a := ⟨w.heap.size + 2, 0, none⟩) k2).trans h.f0, (World.cell?_of_block (a := ⟨w.heap.size + 2, 1, none⟩) k2).trans h.f1, (World.cell?_of_block (a := ⟨w.heap.size + 2, 2, none⟩) k2).trans h.f2, (World.cell?_of_block (a := ⟨w.heap.size + 2, 3, none⟩) k2).trans h.f3, (World.cell?_of_block (a := ⟨w.heap.size + 3, 0, none⟩) k3).trans h.b, fun j => (World.frozen?_of_block (a := ⟨w.heap.size + 1, j, none⟩) k1).trans (h.z1 j), fun j => (World.frozen?_of_block (a := ⟨w.heap.size + 2, j, none⟩) k2).trans (h.z2 j), fun j => (World.frozen?_of_block (a := ⟨w.heap.size + 3, j, none⟩) k3).trans (h.z3 j), hb⟩
theorem Sx.grown {w A C : World} {key : ByteArray} {f : En} {ok : Bool} {row : Option Nat} (h : Sx w key f ok A) (hg : A.grownBy C row) (hr : ∀ r, row = some r → w.heap.size + 4 ≤ r) : Sx w key f ok C :=
  h.same (fun b h1 h2 => hg.block b (by have := World.block_lt_of_cell? A _ h.b; simp only at this; omega) (fun e => by have := hr b e.symm; omega)) (below_grown (B := 0) h.bl hg (Nat.le_refl _) (fun r e => by have := hr r e; omega))
theorem Sx.found {w W : World} {key : ByteArray} {f : En} {ok : Bool} (h : Sx w key f ok W) (e : En) : Sx w key e true (((((W.setCell ⟨w.heap.size + 2, 0, none⟩ (.string e.1)).setCell ⟨w.heap.size + 2, 1, none⟩ (.int .u64 e.2.1)).setCell ⟨w.heap.size + 2, 2, none⟩ (.bool e.2.2.1)).setCell ⟨w.heap.size + 2, 3, none⟩ (.string e.2.2.2)).setCell ⟨w.heap.size + 3, 0, none⟩ (.bool true)) := by
  have fs := four_set (.string e.1) (.int .u64 e.2.1) (.bool e.2.2.1) (.string e.2.2.2) h.f0 h.f1 h.f2 h.f3
  have ot : ∀ {b j : Nat} {v : Value}, b ≠ w.heap.size + 2 → b ≠ w.heap.size + 3 → W.cell? ⟨b, j, none⟩ = some v → (((((W.setCell ⟨w.heap.size + 2, 0, none⟩ (.string e.1)).setCell ⟨w.heap.size + 2, 1, none⟩ (.int .u64 e.2.1)).setCell ⟨w.heap.size + 2, 2, none⟩ (.bool e.2.2.1)).setCell ⟨w.heap.size + 2, 3, none⟩ (.string e.2.2.2)).setCell ⟨w.heap.size + 3, 0, none⟩ (.bool true)).cell? ⟨b, j, none⟩ = some v := fun {b j v} n2 n3 hv => by
    have hn : ∀ (c i : Nat), b ≠ c → (⟨c, i, none⟩ : Addr) ≠ ⟨b, j, none⟩ := fun c i hc he => hc (congrArg Addr.block he).symm
    rw [World.cell?_setCell_other _ _ _ _ (hn _ _ n3), World.cell?_setCell_other _ _ _ _ (hn _ _ n2), World.cell?_setCell_other _ _ _ _ (hn _ _ n2), World.cell?_setCell_other _ _ _ _ (hn _ _ n2), World.cell?_setCell_other _ _ _ _ (hn _ _ n2)]
    exact hv
  have o2 : ∀ {j : Nat} {v : Value}, ((((W.setCell ⟨w.heap.size + 2, 0, none⟩ (.string e.1)).setCell ⟨w.heap.size + 2, 1, none⟩ (.int .u64 e.2.1)).setCell ⟨w.heap.size + 2, 2, none⟩ (.bool e.2.2.1)).setCell ⟨w.heap.size + 2, 3, none⟩ (.string e.2.2.2)).cell? ⟨w.heap.size + 2, j, none⟩ = some v → (((((W.setCell ⟨w.heap.size + 2, 0, none⟩ (.string e.1)).setCell ⟨w.heap.size + 2, 1, none⟩ (.int .u64 e.2.1)).setCell ⟨w.heap.size + 2, 2, none⟩ (.bool e.2.2.1)).setCell ⟨w.heap.size + 2, 3, none⟩ (.string e.2.2.2)).setCell ⟨w.heap.size + 3, 0, none⟩ (.bool true)).cell? ⟨w.heap.size + 2, j, none⟩ = some v := fun {j v} hv => by
    rw [World.cell?_setCell_other _ _ _ _ (by intro he; have := congrArg Addr.block he; simp at this)]
    exact hv
  have o3 : ((((W.setCell ⟨w.heap.size + 2, 0, none⟩ (.string e.1)).setCell ⟨w.heap.size + 2, 1, none⟩ (.int .u64 e.2.1)).setCell ⟨w.heap.size + 2, 2, none⟩ (.bool e.2.2.1)).setCell ⟨w.heap.size + 2, 3, none⟩ (.string e.2.2.2)).cell? ⟨w.heap.size + 3, 0, none⟩ = some (.bool ok) := by
    have hn : ∀ (i : Nat), (⟨w.heap.size + 2, i, none⟩ : Addr) ≠ ⟨w.heap.size + 3, 0, none⟩ := fun i he => by have := congrArg Addr.block he; simp at this
    rw [World.cell?_setCell_other _ _ _ _ (hn _), World.cell?_setCell_other _ _ _ _ (hn _), World.cell?_setCell_other _ _ _ _ (hn _), World.cell?_setCell_other _ _ _ _ (hn _)]
    exact h.b
  refine ⟨ot (by omega) (by omega) h.k, ot (by omega) (by omega) h.r0, ot (by omega) (by omega) h.r1, ot (by omega) (by omega) h.r2, ot (by omega) (by omega) h.r3, o2 fs.1, o2 fs.2.1, o2 fs.2.2.1, o2 fs.2.2.2, World.cell?_setCell_same _ _ _ o3, fun j => ?_, fun j => ?_, fun j => ?_, ?_⟩
  · simp only [World.frozen?_setCell]; exact h.z1 j
  · simp only [World.frozen?_setCell]; exact h.z2 j
  · simp only [World.frozen?_setCell]; exact h.z3 j
  · exact (four_below (B := w.heap.size + 2) _ _ _ _ h.bl (by omega)).setCell (p := ⟨w.heap.size + 3, 0, none⟩) (by simp) _
def SxEnd (w : World) (key : ByteArray) (es : List (Nat × En)) (W : World) : Prop := ∃ es' x, es = es' ++ [x] ∧ (∀ e ∈ es'.map Prod.snd, Op.bytesLess e.1.toList key.toList = true) ∧ Op.bytesLess x.2.1.toList key.toList = false ∧ Sx w key x.2 true W
theorem Sx.answer {w W w' : World} {key : ByteArray} {f : En} {ok : Bool} {D : Nat} (h : Sx w key f ok W) (hD : w.heap.size + 4 ≤ D)
    (hb : Below w.heap.size (((((W.setCell ⟨w.heap.size + 1, 0, none⟩ (.string f.1)).setCell ⟨w.heap.size + 1, 1, none⟩ (.int .u64 f.2.1)).setCell ⟨w.heap.size + 1, 2, none⟩ (.bool f.2.2.1)).setCell ⟨w.heap.size + 1, 3, none⟩ (.string f.2.2.2)).drew) w')
    (hk : ∀ b, b ∉ [D] → w'.heap[b]? = (((((W.setCell ⟨w.heap.size + 1, 0, none⟩ (.string f.1)).setCell ⟨w.heap.size + 1, 1, none⟩ (.int .u64 f.2.1)).setCell ⟨w.heap.size + 1, 2, none⟩ (.bool f.2.2.1)).setCell ⟨w.heap.size + 1, 3, none⟩ (.string f.2.2.2)).drew).heap[b]?) :
    w'.cell? ⟨w.heap.size + 1, 0, none⟩ = some (.string f.1) ∧ w'.cell? ⟨w.heap.size + 1, 1, none⟩ = some (.int .u64 f.2.1) ∧ w'.cell? ⟨w.heap.size + 1, 2, none⟩ = some (.bool f.2.2.1) ∧ w'.cell? ⟨w.heap.size + 1, 3, none⟩ = some (.string f.2.2.2) ∧ Below w.heap.size w w' := by
  have fs := four_set (.string f.1) (.int .u64 f.2.1) (.bool f.2.2.1) (.string f.2.2.2) h.r0 h.r1 h.r2 h.r3
  have hfb := four_below (B := w.heap.size + 1) (.string f.1) (.int .u64 f.2.1) (.bool f.2.2.1) (.string f.2.2.2) h.bl (by omega)
  have k1 := hk (w.heap.size + 1) (by simp; omega)
  clear hk
  generalize ((((W.setCell ⟨w.heap.size + 1, 0, none⟩ (.string f.1)).setCell ⟨w.heap.size + 1, 1, none⟩ (.int .u64 f.2.1)).setCell ⟨w.heap.size + 1, 2, none⟩ (.bool f.2.2.1)).setCell ⟨w.heap.size + 1, 3, none⟩ (.string f.2.2.2)) = X at *
  have k2 : w'.heap[w.heap.size + 1]? = X.heap[w.heap.size + 1]? := k1
  have c : ∀ j, w'.cell? ⟨w.heap.size + 1, j, none⟩ = X.cell? ⟨w.heap.size + 1, j, none⟩ := fun j => World.cell?_of_block (a := ⟨w.heap.size + 1, j, none⟩) k2
  exact ⟨(c 0).trans fs.1, (c 1).trans fs.2.1, (c 2).trans fs.2.2.1, (c 3).trans fs.2.2.2, hfb.drew.trans hb⟩
theorem Sx.marks {w W : World} {key : ByteArray} {f : En} {ok : Bool} {D : Nat} (h : Sx w key f ok W) (hD : w.heap.size + 4 ≤ D) (hDd : W.heap[D]? = some (.deferred (some []))) :
    ∀ E ∈ [D], w.heap.size ≤ E ∧ (((((W.setCell ⟨w.heap.size + 1, 0, none⟩ (.string f.1)).setCell ⟨w.heap.size + 1, 1, none⟩ (.int .u64 f.2.1)).setCell ⟨w.heap.size + 1, 2, none⟩ (.bool f.2.2.1)).setCell ⟨w.heap.size + 1, 3, none⟩ (.string f.2.2.2)).drew).heap[E]? = some (.deferred (some [])) := fun E hE => by
  rw [List.mem_singleton.1 hE]
  refine ⟨by omega, ?_⟩
  show ((((W.setCell _ _).setCell _ _).setCell _ _).setCell _ _).heap[D]? = _
  rw [Below.heap_setCell _ _ _ D (by simp; omega), Below.heap_setCell _ _ _ D (by simp; omega), Below.heap_setCell _ _ _ D (by simp; omega), Below.heap_setCell _ _ _ D (by simp; omega)]
  exact hDd
def skV (o : Option En) : Value := .tuple #[match o with | none => .agg #[.string ⟨#[]⟩, .int .u64 0, .bool false, .string ⟨#[]⟩] | some e => .agg #[.string e.1, .int .u64 e.2.1, .bool e.2.2.1, .string e.2.2.2], .bool o.isSome]
theorem wkp_fst (eb : List Nat) (pl : Nat) : (wkp eb pl).map Prod.snd = (wk (eb.drop pl) []).map Prod.fst := by
  unfold wkp
  rw [pos_snd]
theorem skE_none {l : List En} {key : ByteArray} (h : ∀ e ∈ l, Op.bytesLess e.1.toList key.toList = true) : skE l key = none := by
  unfold skE
  rw [List.find?_eq_none]
  intro x hx
  rw [h x hx]; simp
theorem skE_some {l m : List En} {x : En} {key : ByteArray} (hp : l ++ [x] <+: m) (h : ∀ e ∈ l, Op.bytesLess e.1.toList key.toList = true) (hx : Op.bytesLess x.1.toList key.toList = false) : skE m key = some x := by
  obtain ⟨t, rfl⟩ := hp
  unfold skE
  rw [List.append_assoc, List.find?_append]
  have : l.find? (fun e => !Op.bytesLess e.1.toList key.toList) = none := skE_none h
  rw [this]
  simp [hx]
set_option maxHeartbeats 2000000 in
theorem seek_in (w : World) (K o r : Nat) (l : List En) (key : ByteArray) (hr : 1 ≤ r) (hk : BlkZ w K o (pushes r st0 l).b (pushes r st0 l).p) (hc : chain ⟨#[]⟩ l) (h0 : ∀ e ∈ l, 0 ≤ e.2.1) (hb : (pushes r st0 l).b.length < 4294967296) (hp : (pushes r st0 l).p.length ≤ 1000000000000) :
    CallsIn Fence.wide 7 Tryd.prog 19 #[.pointer (some ⟨K, o, none⟩), .string key] w fun e w' => e = .returned (skV (skE l key)) ∧ Below w.heap.size w w' := by
  have hok : ∀ e ∈ l, Ok e ∧ 0 ≤ e.2.1 := fun e he => ⟨chain_ok hc e he, h0 e he⟩
  obtain ⟨W4, hW4⟩ : ∃ W4, W4 = (((w.alloc (.cells #[.string key] 9)).alloc (.cells #[.string ⟨#[]⟩, .int .u64 0, .bool false, .string ⟨#[]⟩] 30)).alloc (.cells #[.string ⟨#[]⟩, .int .u64 0, .bool false, .string ⟨#[]⟩] 30)).alloc (.cells #[.bool false] 4) := ⟨_, rfl⟩
  have hb4 : Below w.heap.size w W4 := by rw [hW4]; exact ((((Below.refl _ _).alloc (Nat.le_refl _) _).alloc (by simp) _).alloc (by simp; omega) _).alloc (by simp; omega) _
  have hs4 : W4.heap.size = w.heap.size + 4 := by rw [hW4]; simp
  have S4 : Sx w key (⟨#[]⟩, 0, false, ⟨#[]⟩) false W4 := by
    have g0 : W4.heap[w.heap.size]? = some (.cells #[.string key] 9) := by
      rw [hW4, Below.heap_alloc _ _ _ (by simp <;> omega), Below.heap_alloc _ _ _ (by simp <;> omega), Below.heap_alloc _ _ _ (by simp <;> omega)]
      exact World.alloc_heap_new w _
    have g1 : W4.heap[w.heap.size + 1]? = some (.cells #[.string ⟨#[]⟩, .int .u64 0, .bool false, .string ⟨#[]⟩] 30) := by
      rw [hW4, Below.heap_alloc _ _ _ (by simp <;> omega), Below.heap_alloc _ _ _ (by simp <;> omega)]
      have := World.alloc_heap_new (w.alloc (.cells #[.string key] 9)) (.cells #[.string ⟨#[]⟩, .int .u64 0, .bool false, .string ⟨#[]⟩] 30)
      rwa [World.size_alloc] at this
    have g2 : W4.heap[w.heap.size + 2]? = some (.cells #[.string ⟨#[]⟩, .int .u64 0, .bool false, .string ⟨#[]⟩] 30) := by
      rw [hW4, Below.heap_alloc _ _ _ (by simp <;> omega)]
      have := World.alloc_heap_new ((w.alloc (.cells #[.string key] 9)).alloc (.cells #[.string ⟨#[]⟩, .int .u64 0, .bool false, .string ⟨#[]⟩] 30)) (.cells #[.string ⟨#[]⟩, .int .u64 0, .bool false, .string ⟨#[]⟩] 30)
      rwa [World.size_alloc, World.size_alloc] at this
    have g3 : W4.heap[w.heap.size + 3]? = some (.cells #[.bool false] 4) := by
      rw [hW4]
      have := World.alloc_heap_new (((w.alloc (.cells #[.string key] 9)).alloc (.cells #[.string ⟨#[]⟩, .int .u64 0, .bool false, .string ⟨#[]⟩] 30)).alloc (.cells #[.string ⟨#[]⟩, .int .u64 0, .bool false, .string ⟨#[]⟩] 30)) (.cells #[.bool false] 4)
      rwa [World.size_alloc, World.size_alloc, World.size_alloc] at this
    exact ⟨by rw [cell_of_obj g0]; rfl, by rw [cell_of_obj g1]; rfl, by rw [cell_of_obj g1]; rfl, by rw [cell_of_obj g1]; rfl, by rw [cell_of_obj g1]; rfl, by rw [cell_of_obj g2]; rfl, by rw [cell_of_obj g2]; rfl, by rw [cell_of_obj g2]; rfl, by rw [cell_of_obj g2]; rfl, by rw [cell_of_obj g3]; rfl, fun j => froz_of_obj g1, fun j => froz_of_obj g2, fun j => froz_of_obj g3, hb4⟩
  have HS4 : Hid (Sx w key (⟨#[]⟩, 0, false, ⟨#[]⟩) false W4) := S4
  have HRF : Hid (Calls Tryd.prog 44 #[.pointer (some ⟨K, o, none⟩), .string key] W4 fun e w' => RfIs W4 r l key e w') := restartFor_any W4 K o r l key hr (hk.below hb4) hc h0 hb hp
  have HWF : Hid (∀ k, k ≤ l.length → k % r = 0 → (pushes r st0 (l.take k)).b.length ≤ (pushes r st0 l).b.length ∧ (wkp (pushes r st0 l).b (pushes r st0 (l.take k)).b.length).map Prod.snd = l.drop k) := fun k h1 h2 => by
    have := wk_from hok h1 h2
    exact ⟨this.1, by rw [wkp_fst]; exact this.2⟩
  have HK4 : Hid (BlkZ W4 K o (pushes r st0 l).b (pushes r st0 l).p) := hk.below hb4
  clear hk hc h0 hb hp hok hr S4 hb4
  refine callsIn_of_wp_marks Tryd.func19 rfl trivial ?_ rfl
  simp only [Tryd.ntmps19, List.size_toArray, List.length_cons, List.length_nil, Nat.reduceAdd, Nat.reduceSub, Array.replicate_succ, Array.replicate_zero, List.push_toArray, List.append_toArray, List.nil_append, List.cons_append]
  have hf1 : Fence.wide.fn 44 := trivial
  have hf3 : Fence.wide.fn 36 := trivial
  gi_wp2_with fail
  refine wpIn_scope ?_
  gi_wp2_with fail
  first | refine wpIn_label ?_ | skip
  gi_wp2_with fail
  try rw [← hW4]
  clear hW4
  rw [show w.heap.size + 1 + 1 + 1 = w.heap.size + 3 from rfl, show w.heap.size + 1 + 1 = w.heap.size + 2 from rfl]
  refine (callsIn_wide.2 HRF.out).mono ?_
  rintro e w5 ⟨k, pl, rfl, hpl9, hkl, hkr, hlow, hb5⟩
  have HPL9 : Hid (pl = (pushes r st0 (l.take k)).b.length) := hpl9
  clear hpl9
  dsimp only
  gi_wp2_with fail
  refine (callsIn_wide.2 (walk_any w5 K o pl)).mono ?_
  rintro e w6 ⟨rfl, hb6, hs6, c6a, c6b⟩
  dsimp only
  have s5 := hb5.size
  have hb46 : Below W4.heap.size W4 w6 := hb5.trans (hb6.mono s5)
  have HS6 : Hid (Sx w key (⟨#[]⟩, 0, false, ⟨#[]⟩) false w6) := HS4.out.same (fun b _ h2 => hb46.block b (by omega)) (HS4.out.bl.trans (hb46.mono (by omega)))
  have hwf := HWF.out k hkl hkr
  rw [← HPL9.out] at hwf
  have HEQ : Hid (skE ((wkp (pushes r st0 l).b pl).map Prod.snd) key = skE l key) := by show _ = _; rw [hwf.2]; exact skE_drop hlow
  have HSQ : Hid (SeqE (fun _ => False) Fence.wide 6 5 Tryd.prog 69 #[.pointer (some ⟨w5.heap.size, 0, none⟩), .pointer (some ⟨w5.heap.size + 1, 0, none⟩)] encP (wkp (pushes r st0 l).b pl) w6 (fun _ => 0)) := walk_seq (fun _ => False) (fun z => z) 6 (by decide) _ _ _ K o pl _ _ w6 hwf.1 (HK4.out.below hb46) (fun _ _ => rfl) c6a c6b (fun z => z) (fun z => z)
  have qs6 : w.heap.size + 4 ≤ w6.heap.size := by omega
  generalize wkp (pushes r st0 l).b pl = post at *
  clear hb5 hb6 hs6 c6a c6b s5 hb46 hwf hkl hkr hlow HPL9 hs4 HRF HWF HK4 HS4
  gi_wp2
  refine range_e rfl (by decide) (gf := 69) (lb := #[.pointer (some ⟨w5.heap.size, 0, none⟩), .pointer (some ⟨w5.heap.size + 1, 0, none⟩)]) rfl trivial (enters_of Tryd.func69 (by kernel_rfl) rfl)
    (fun _ => False) (fun z => z) (fun _ => 0) (fun _ _ => rfl) HSQ.out (fun _ => rfl)
    (fun es _ W => (∀ e ∈ es.map Prod.snd, Op.bytesLess e.1.toList key.toList = true) ∧ Sx w key (⟨#[]⟩, 0, false, ⟨#[]⟩) false W) (fun c es _ W => c = .exit 0 ∧ SxEnd w key es W)
    (fun es T A C row h hg hr => ⟨h.1, h.2.grown hg (fun r e => Nat.le_trans qs6 (hr r e).1)⟩) (fun c es T A C row h hg hr => ⟨h.1, by obtain ⟨es', x, h1, h2, h3, h4⟩ := h.2; exact ⟨es', x, h1, h2, h3, h4.grown hg (fun r e => Nat.le_trans qs6 (hr r e).1)⟩⟩) ⟨by simp, HS6.out⟩
    (fun e a' Wc W' => W' = Wc.alloc (.cells #[.string e.2.1, .int .u64 e.2.2.1, .bool e.2.2.2.1, .string e.2.2.2.2] 30) ∧ a' = { tmps := #[.pointer (some ⟨K, o, none⟩), .string key, undef, .pointer (some ⟨w.heap.size, 0, none⟩), .pointer (some ⟨w.heap.size + 1, 0, none⟩), .bool false, .pointer (some ⟨w.heap.size + 2, 0, none⟩), .pointer (some ⟨w.heap.size + 3, 0, none⟩), undef, .pointer (some ⟨Wc.heap.size, 0, none⟩), .pointer (some ⟨K, o, none⟩), .pointer (some ⟨K, o, none⟩), .string key, .int .i64 (pl : Int), .func (.func 69) #[] #[.pointer (some ⟨w5.heap.size, 0, none⟩), .pointer (some ⟨w5.heap.size + 1, 0, none⟩)], .int .i64 (e.1 : Int), .agg #[.string e.2.1, .int .u64 e.2.2.1, .bool e.2.2.2.1, .string e.2.2.2.2], undef, undef, undef, undef, undef, undef, undef], defers := [] })
    (fun e a' Wc W' h => by rw [h.1]; exact (Below.refl _ _).alloc (Nat.le_refl _) _) ?assign ?body ?done ?stop
  case assign =>
    rintro l_ ⟨ep, ek, es_, ed, ev⟩ es T Wc Kc hi hK
    simp only [encP]
    gi_wp2
    try exact hK _ _ ⟨rfl, rfl⟩
  case body =>
    rintro l_ ⟨ep, ek, es_, ed, ev⟩ es T a' Wc W' Wb hl1 hl2 ⟨ob, ho, hoc⟩ _ ⟨hlo, hsx⟩ hz hN9 ⟨rfl, rfl⟩ hg
    dsimp only at *
    have e0 : Wb.heap[Wc.heap.size]? = some (.cells #[.string ek, .int .u64 es_, .bool ed, .string ev] 30) := (hg.block _ (by simp) (fun e => by cases e; omega)).trans (World.alloc_heap_new _ _)
    have c0 : Wb.cell? ⟨Wc.heap.size, 0, none⟩ = some (.string ek) := by rw [cell_of_obj e0]; rfl
    have c1 : Wb.cell? ⟨Wc.heap.size, 1, none⟩ = some (.int .u64 es_) := by rw [cell_of_obj e0]; rfl
    have c2 : Wb.cell? ⟨Wc.heap.size, 2, none⟩ = some (.bool ed) := by rw [cell_of_obj e0]; rfl
    have c3 : Wb.cell? ⟨Wc.heap.size, 3, none⟩ = some (.string ev) := by rw [cell_of_obj e0]; rfl
    have k0 := hsx.k
    have HSX : Hid (Sx w key (⟨#[]⟩, 0, false, ⟨#[]⟩) false Wb ∧ ∀ e ∈ es.map Prod.snd, Op.bytesLess e.1.toList key.toList = true) := ⟨hsx, hlo⟩
    have HZ : Hid (∀ b, Wb.heap.size ≤ b → T b = 0) := fun b hb => hz b (by have := hg.size; simp at this; omega)
    have hcl : Wc.heap.size < Wb.heap.size := (Array.getElem?_eq_some_iff.1 e0).1
    have hwl : w.heap.size + 4 ≤ Wc.heap.size := by omega
    clear hlo hz hN9 hg ho hoc e0
    cases hlt : Op.bytesLess ek.toList key.toList with
    | true =>
      have HLT : Hid (Op.bytesLess ek.toList key.toList = true) := hlt
      clear hsx
      gi_wp2
      refine ⟨T, ⟨fun e he => ?_, HSX.out.1⟩, Goes.refl _ _ _, HZ.out, KeepsFrom.refl _ _⟩
      rw [List.map_append] at he
      rcases List.mem_append.1 he with he | he
      · exact HSX.out.2 e he
      · simp at he; rw [he]; exact HLT.out
    | false =>
      have HLT : Hid (Op.bytesLess ek.toList key.toList = false) := hlt
      have f0 := hsx.f0
      have f1 := hsx.f1
      have f2 := hsx.f2
      have f3 := hsx.f3
      have fb := hsx.b
      have z2 := hsx.z2
      have z3 := hsx.z3
      clear hsx
      gi_wp2
      refine ⟨T, ⟨rfl, es, _, rfl, HSX.out.2, HLT.out, HSX.out.1.found (ek, es_, ed, ev)⟩, ?_⟩
      exact ((((((KeepsOthers.setCell _ _ _).trans (KeepsOthers.setCell _ _ _)).trans (KeepsOthers.setCell _ _ _)).trans (KeepsOthers.setCell _ _ _)).trans (KeepsOthers.setCell _ _ _))).from _
  case done =>
    rintro D T W' hD ⟨hlo, hsx⟩ hDd
    have HV : Hid (skE l key = none) := by show _ = _; rw [← HEQ.out]; exact skE_none hlo
    have HSX : Hid (Sx w key (⟨#[]⟩, 0, false, ⟨#[]⟩) false W') := hsx
    have f0 := hsx.f0
    have f1 := hsx.f1
    have f2 := hsx.f2
    have f3 := hsx.f3
    have fb := hsx.b
    have r0 := hsx.r0
    have r1 := hsx.r1
    have r2 := hsx.r2
    have r3 := hsx.r3
    have z1 := hsx.z1
    clear hsx hlo
    dsimp only
    dsimp only at f0 f1 f2 f3
    gi_wp2
    gi_region
    gi_wp2
    refine leaves_marks (B0 := w.heap.size) [D] _ (HSX.out.marks (by omega) hDd) (by simp) (fun w' hb hk => ?_)
    obtain ⟨e0, e1, e2, e3, hbw⟩ := HSX.out.answer (by omega) hb hk
    dsimp only at e0 e1 e2 e3
    refine ⟨skV none, ?_, by rw [HV.out], hbw⟩
    clear hk hb
    simp [results, Tryd.results19, go_sem, e0, e1, e2, e3, skV]
  case stop =>
    rintro D c es T W' hD hpre ⟨rfl, es', x, rfl, hlo, hx, hsx⟩ hDd
    have HV : Hid (skE l key = some x.2) := by
      show _ = _
      rw [← HEQ.out]
      refine skE_some (l := es'.map Prod.snd) ?_ hlo hx
      have := map_pre Prod.snd hpre
      rw [List.map_append, List.map_singleton] at this
      exact this
    obtain ⟨xp, xk, xs, xd, xv⟩ := x
    have HSX : Hid (Sx w key (xk, xs, xd, xv) true W') := hsx
    have f0 := hsx.f0
    have f1 := hsx.f1
    have f2 := hsx.f2
    have f3 := hsx.f3
    have fb := hsx.b
    have r0 := hsx.r0
    have r1 := hsx.r1
    have r2 := hsx.r2
    have r3 := hsx.r3
    have z1 := hsx.z1
    clear hsx hlo hx hpre
    dsimp only
    dsimp only at f0 f1 f2 f3
    gi_wp2
    gi_region
    gi_wp2
    refine leaves_marks (B0 := w.heap.size) [D] _ (HSX.out.marks (by omega) hDd) (by simp) (fun w' hb hk => ?_)
    obtain ⟨e0, e1, e2, e3, hbw⟩ := HSX.out.answer (by omega) hb hk
    dsimp only at e0 e1 e2 e3
    refine ⟨skV (some (xk, xs, xd, xv)), ?_, by rw [HV.out], hbw⟩
    clear hk hb
    simp [results, Tryd.results19, go_sem, e0, e1, e2, e3, skV]
theorem seek_any (w : World) (K o r : Nat) (l : List En) (key : ByteArray) (hr : 1 ≤ r) (hk : BlkZ w K o (pushes r st0 l).b (pushes r st0 l).p) (hc : chain ⟨#[]⟩ l) (h0 : ∀ e ∈ l, 0 ≤ e.2.1) (hb : (pushes r st0 l).b.length < 4294967296) (hp : (pushes r st0 l).p.length ≤ 1000000000000) :
    Calls Tryd.prog 19 #[.pointer (some ⟨K, o, none⟩), .string key] w fun e w' => e = .returned (skV (skE l key)) ∧ Below w.heap.size w w' := callsIn_wide.1 (seek_in w K o r l key hr hk hc h0 hb hp)
end Qb
end Go.Proofs.YtkebbmdghnplmaaDoor
