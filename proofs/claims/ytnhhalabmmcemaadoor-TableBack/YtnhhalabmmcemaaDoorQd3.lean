import Derived.Test.YtnhhalabmmcemaaDoorQc6
import Derived.BigQuiet
import Derived.Deep.LoopGhost
import Derived.Deep.Draws
import Derived.Deep.QuietTactic
import Derived.Test.YtnhhalabmmcemaaDoorTaM
namespace Go.Proofs.YtnhhalabmmcemaaDoor
namespace Qb
open Go.RowKit Go.Shelf CMath Byt Laws Irw Crw Cod Qe
set_option linter.unusedVariables false
set_option linter.unusedSimpArgs false
set_option maxRecDepth 100000
attribute [local go_sem] Oper.semAt_some

/-- The key that stands whole at a place. -/
def keyOf (eb : List Nat) (pl : Nat) : ByteArray := match wk (eb.drop pl) [] with | [] => ⟨#[]⟩ | x :: _ => x.1.1
theorem keyOf_wkp {eb : List Nat} {pl : Nat} {x : Nat × En} {es : List (Nat × En)} (h : es ++ [x] <+: wkp eb pl) (he : es = []) : keyOf eb pl = x.2.1 := by
  subst he
  unfold wkp at h
  unfold keyOf
  cases hw : wk (eb.drop pl) [] with
  | nil => rw [hw] at h; simp [pos] at h
  | cons y t =>
    rw [hw] at h
    simp only [pos, List.nil_append, List.cons_prefix_cons] at h
    rw [h.1]
theorem keyOf_nil {eb : List Nat} {pl : Nat} (h : wkp eb pl = []) : keyOf eb pl = ⟨#[]⟩ := by
  unfold wkp at h
  unfold keyOf
  cases hw : wk (eb.drop pl) [] with
  | nil => rfl
  | cons y t => rw [hw] at h; simp [pos] at h

structure Ka (w : World) (x : ByteArray) (W : World) : Prop where
  c : W.cell? ⟨w.heap.size, 0, none⟩ = some (.string x)
  f : W.frozen? ⟨w.heap.size, 0, none⟩ = false
  bl : Below w.heap.size w W
theorem Ka.grown {w A C : World} {x : ByteArray} {row : Option Nat} (h : Ka w x A) (hg : A.grownBy C row) (hr : ∀ r, row = some r → w.heap.size ≤ r ∧ ∃ o : Obj, A.heap[r]? = some o ∧ o.isCells = false) : Ka w x C := by
  have k0 := cell_grown' hg (fun x e => (hr x e).2) h.c
  exact ⟨(World.cell?_of_block (a := ⟨w.heap.size, 0, none⟩) k0).trans h.c, (World.frozen?_of_block (a := ⟨w.heap.size, 0, none⟩) k0).trans h.f, below_grown (B := 0) h.bl hg (Nat.le_refl _) (fun r e => (hr r e).1)⟩
set_option maxHeartbeats 1000000 in
theorem keyAt_in (w : World) (K o pl : Nat) (eb pb : List Nat) (hk : BlkZ w K o eb pb) (hpl : pl ≤ eb.length) :
    CallsIn Fence.wide 7 Tryd.prog 77 #[.pointer (some ⟨K, o, none⟩), .int .i64 (pl : Int)] w fun e w' => e = .returned (.string (keyOf eb pl)) ∧ Below w.heap.size w w' := by
  have HK : Hid (BlkZ w K o eb pb) := hk
  clear hk
  have g1 : (w.alloc (.cells #[.string ⟨#[]⟩] 9)).heap[w.heap.size]? = some (.cells #[.string ⟨#[]⟩] 9) := World.alloc_heap_new _ _
  have hb2 : Below w.heap.size w (w.alloc (.cells #[.string ⟨#[]⟩] 9)) := (Below.refl _ _).alloc (Nat.le_refl _) _
  have hs2 : (w.alloc (.cells #[.string ⟨#[]⟩] 9)).heap.size = w.heap.size + 1 := by simp
  refine callsIn_of_wp_marks Tryd.func77 rfl trivial ?_ rfl
  simp only [Tryd.ntmps77, List.size_toArray, List.length_cons, List.length_nil, Nat.reduceAdd, Nat.reduceSub, Array.replicate_succ, Array.replicate_zero, List.push_toArray, List.append_toArray, List.nil_append, List.cons_append]
  have hf3 : Fence.wide.fn 54 := trivial
  gi_wp2_with fail
  generalize (w.alloc (.cells #[.string ⟨#[]⟩] 9)) = w2 at *
  refine (callsIn_wide.2 (walk_any w2 K o pl)).mono ?_
  rintro e w4 ⟨rfl, hb4, hs4, c4a, c4b⟩
  dsimp only
  rw [hs2] at hs4 c4a c4b ⊢
  have g4 := (hb4.block _ (by omega)).trans g1
  have hb24 : Below w.heap.size w w4 := hb2.trans (hb4.mono (by omega))
  have H0 : Hid (Ka w ⟨#[]⟩ w4) := ⟨by rw [cell_of_obj g4]; rfl, froz_of_obj g4, hb24⟩
  have HSQ : Hid (SeqE (fun _ => False) Fence.wide 6 5 Tryd.prog 74 #[.pointer (some ⟨w.heap.size + 1, 0, none⟩), .pointer (some ⟨w.heap.size + 1 + 1, 0, none⟩)] encP (wkp eb pl) w4 (fun _ => 0)) := walk_seq (fun _ => False) (fun z => z) 6 (by decide) _ _ _ K o pl eb pb w4 hpl (HK.out.below hb24) (fun _ _ => rfl) c4a c4b (fun z => z) (fun z => z)
  have qs4 : w.heap.size ≤ w4.heap.size := by omega
  clear hb2 hb4 hb24 g1 g4 c4a c4b hs2 hs4
  gi_wp2
  refine range_e rfl (by decide) (gf := 74) (lb := #[.pointer (some ⟨w.heap.size + 1, 0, none⟩), .pointer (some ⟨w.heap.size + 1 + 1, 0, none⟩)]) rfl trivial (enters_of Tryd.func74 (by kernel_rfl) rfl)
    (fun _ => False) (fun z => z) (fun _ => 0) (fun _ _ => rfl) HSQ.out (fun _ => rfl)
    (fun es _ W => es = [] ∧ Ka w ⟨#[]⟩ W) (fun c es _ W => c = .ret ∧ ∃ x, es = [x] ∧ Ka w x.2.1 W)
    (fun es T A C row h hg hr => ⟨h.1, h.2.grown hg (fun r e => ⟨Nat.le_trans qs4 (hr r e).1, (hr r e).2⟩)⟩) (fun c es T A C row h hg hr => ⟨h.1, by obtain ⟨x, h1, h2⟩ := h.2; exact ⟨x, h1, h2.grown hg (fun r e => ⟨Nat.le_trans qs4 (hr r e).1, (hr r e).2⟩)⟩⟩) ⟨rfl, H0.out⟩
    (fun e a' Wc W' => W' = Wc.alloc (.cells #[.string e.2.1, .int .u64 e.2.2.1, .bool e.2.2.2.1, .string e.2.2.2.2] 43) ∧ a' = { tmps := #[.pointer (some ⟨K, o, none⟩), .int .i64 (pl : Int), undef, undef, .pointer (some ⟨w.heap.size, 0, none⟩), undef, .pointer (some ⟨Wc.heap.size, 0, none⟩), .pointer (some ⟨K, o, none⟩), .int .i64 (pl : Int), .func (.func 74) #[] #[.pointer (some ⟨w.heap.size + 1, 0, none⟩), .pointer (some ⟨w.heap.size + 1 + 1, 0, none⟩)], .int .i64 (e.1 : Int), .agg #[.string e.2.1, .int .u64 e.2.2.1, .bool e.2.2.2.1, .string e.2.2.2.2], undef, undef], defers := [] })
    (fun e a' Wc W' h => by rw [h.1]; exact (Below.refl _ _).alloc (Nat.le_refl _) _) ?assign ?body ?done ?stop
  case assign =>
    rintro l_ ⟨ep, ek, es_, ed, ev⟩ es T Wc Kc hi hK
    simp only [encP]
    gi_wp2
    try exact hK _ _ ⟨rfl, rfl⟩
  case body =>
    rintro l_ ⟨ep, ek, es_, ed, ev⟩ es T a' Wc W' Wb hl1 hl2 ⟨ob, ho, hoc⟩ _ ⟨hnil, hka⟩ hz hN9 ⟨rfl, rfl⟩ hg
    dsimp only at *
    have e0 : Wb.heap[Wc.heap.size]? = some (.cells #[.string ek, .int .u64 es_, .bool ed, .string ev] 43) := (hg.block _ (by simp) (fun e => by cases e; omega)).trans (World.alloc_heap_new _ _)
    have c0 : Wb.cell? ⟨Wc.heap.size, 0, none⟩ = some (.string ek) := by rw [cell_of_obj e0]; rfl
    have r0 := hka.c
    have f0 := hka.f
    have HKA : Hid (Ka w ⟨#[]⟩ Wb ∧ es = []) := ⟨hka, hnil⟩
    clear hka hnil hz hN9 hg ho hoc e0
    gi_wp2
    refine ⟨T, ⟨rfl, (ep, ek, es_, ed, ev), by rw [HKA.out.2]; rfl, World.cell?_setCell_same _ _ _ r0, by rw [World.frozen?_setCell]; exact f0, HKA.out.1.bl.setCell (p := ⟨w.heap.size, 0, none⟩) (by simp) _⟩, (KeepsOthers.setCell _ _ _).from _⟩
  case done =>
    rintro D T W' hD ⟨hnil, hka⟩ hDd
    have HEQ : Hid (keyOf eb pl = ⟨#[]⟩) := keyOf_nil hnil
    have r0 := hka.c
    have f0 := hka.f
    have HKA : Hid (Ka w ⟨#[]⟩ W') := hka
    have HND : Hid (D ≠ w.heap.size) := by
      intro h
      obtain ⟨o, h1, h2⟩ := cells_of r0
      rw [← h, hDd] at h1; cases h1; cases h2
    clear hka hnil
    dsimp only
    gi_wp2
    refine leaves_marks (B0 := w.heap.size) [D] _ (by
      intro E hE
      rw [List.mem_singleton.1 hE]
      exact ⟨by omega, (Below.heap_setCell _ _ _ D (by simpa using HND.out)).trans hDd⟩) (by simp) (fun w' hb hk => ?_)
    have e0 : w'.cell? ⟨w.heap.size, 0, none⟩ = some (.string ⟨#[]⟩) := (World.cell?_of_block (a := ⟨w.heap.size, 0, none⟩) (hk _ (by simpa using fun h => HND.out h.symm))).trans (World.cell?_setCell_same _ _ _ r0)
    refine ⟨.string ⟨#[]⟩, ?_, by rw [HEQ.out], (HKA.out.bl.setCell (p := ⟨w.heap.size, 0, none⟩) (by simp) _).trans hb⟩
    clear hk hb
    simp [results, Tryd.results77, go_sem, e0]
  case stop =>
    rintro D c es T W' hD hpre ⟨rfl, x, rfl, hka⟩ hDd
    have HEQ : Hid (keyOf eb pl = x.2.1) := keyOf_wkp (es := []) hpre rfl
    have r0 := hka.c
    have HKA : Hid (Ka w x.2.1 W') := hka
    have HND : Hid (D ≠ w.heap.size) := by
      intro h
      obtain ⟨o, h1, h2⟩ := cells_of r0
      rw [← h, hDd] at h1; cases h1; cases h2
    clear hka
    dsimp only
    gi_wp2
    refine leaves_marks (B0 := w.heap.size) [D] _ (by
      intro E hE
      rw [List.mem_singleton.1 hE]
      exact ⟨by omega, hDd⟩) (by simp) (fun w' hb hk => ?_)
    have e0 : w'.cell? ⟨w.heap.size, 0, none⟩ = some (.string x.2.1) := (World.cell?_of_block (a := ⟨w.heap.size, 0, none⟩) (hk _ (by simpa using fun h => HND.out h.symm))).trans r0
    refine ⟨.string x.2.1, ?_, by rw [HEQ.out], HKA.out.bl.trans hb⟩
    clear hk hb
    simp [results, Tryd.results77, go_sem, e0]
theorem keyAt_any (w : World) (K o pl : Nat) (eb pb : List Nat) (hk : BlkZ w K o eb pb) (hpl : pl ≤ eb.length) :
    Calls Tryd.prog 77 #[.pointer (some ⟨K, o, none⟩), .int .i64 (pl : Int)] w fun e w' => e = .returned (.string (keyOf eb pl)) ∧ Below w.heap.size w w' := callsIn_wide.1 (keyAt_in w K o pl eb pb hk hpl)
end Qb
end Go.Proofs.YtnhhalabmmcemaaDoor
namespace Go.Proofs.YtnhhalabmmcemaaDoor
namespace Qb
open Go.RowKit Go.Shelf CMath Byt Laws Irw Crw Cod Qe
set_option linter.unusedVariables false
set_option linter.unusedSimpArgs false
set_option maxRecDepth 100000

/-- a world in which nothing from before has turned -/
structure Unb (w : World) where
  W : World
  ok : Below w.heap.size w W
theorem Unb.non (w : World) : Nonempty (Unb w) := ⟨⟨w, Below.refl _ _⟩⟩
theorem wp_region_unb {P : Program} {id : Nat} {Q : Exit → Act → World → Prop} {a : Act} {w : World} {l : List Oper} (hm : P.follows .mixedOrders = true) (hB : Region.lexB .any l.toArray = true)
    (h : wpQuiet P l.toArray (fun w' => ∃ V : Unb w, w' = V.W) (fun a' => ∀ w', Below w.heap.size w w' → Q .normal a' w') l a) : (Code.region id l.toArray true).wp P Q a w := by
  have e : (fun a' => ∀ w', Below w.heap.size w w' → Q .normal a' w') = (fun a' => ∀ w', (∃ V : Unb w, w' = V.W) → Q .normal a' w') := by
    funext a'
    exact propext ⟨fun k w' ⟨V, e⟩ => k w' (e ▸ V.ok), fun k w' hb => k w' ⟨⟨w', hb⟩, rfl⟩⟩
  rw [e] at h
  exact wp_region_quiet (C := fun w' => ∃ V : Unb w, w' = V.W) hm hB ⟨⟨w.drew, (Below.refl _ _).drew⟩, rfl⟩ (by simpa using h)
theorem Unb.cell {w : World} {p : Addr} {v : Value} (h : w.cell? p = some v) (V : Unb w) : V.W.cell? p = some v := (V.ok.cell (World.block_lt_of_cell? w _ h)).trans h
theorem Unb.call {P : Program} {f : Nat} {args : Array Value} {w : World} {V : Unb w} {v : Value} (h : Calls P f args V.W fun e w' => e = .returned v ∧ Below V.W.heap.size V.W w') : Calls P f args V.W fun e w'' => e = .returned v ∧ ∃ V' : Unb w, w'' = V'.W :=
  h.mono fun _ w' ⟨he, hb⟩ => ⟨he, ⟨w', V.ok.trans (hb.mono V.ok.size)⟩, rfl⟩
theorem binOp_string_gtr_q (t : TypeId) (a b : ByteArray) : binOp .gtr t (.string a) (.string b) = pure (.bool !(Op.bytesLess a.toList b.toList || a.toList == b.toList)) := by simp [binOp, Op.stringOp]
attribute [local go_sem] binOp_string_gtr_q
/-- Is the key at a restart point above a key? -/
def gtK (x y : ByteArray) : Bool := !(Op.bytesLess x.toList y.toList || x.toList == y.toList)
set_option maxHeartbeats 1000000 in
theorem restartForC_any (w : World) (Bk Bq K o i : Nat) (key : ByteArray) (eb pb : List Nat) (hk : BlkZ w K o eb pb)
    (hBk : w.cell? ⟨Bk, 0, none⟩ = some (.pointer (some ⟨K, o, none⟩))) (hBq : w.cell? ⟨Bq, 0, none⟩ = some (.string key)) (hi : 4 * i + 4 ≤ pb.length) (hpl : val ((pb.drop (4 * i)).take 4) ≤ eb.length) :
    Calls Tryd.prog 76 #[.int .i64 (i : Int), .pointer (some ⟨Bk, 0, none⟩), .pointer (some ⟨Bq, 0, none⟩)] w fun e w' => e = .returned (.bool (gtK (keyOf eb (val ((pb.drop (4 * i)).take 4))) key)) ∧ Below w.heap.size w w' := by
  have HK : Hid (BlkZ w K o eb pb) := hk
  have HP : Hid (∀ V : Unb w, Calls Tryd.prog 78 #[.pointer (some ⟨K, o, none⟩), .int .i64 (i : Int)] V.W fun e w' => e = .returned (.int .i64 ((val ((pb.drop (4 * i)).take 4) : Nat) : Int)) ∧ Below V.W.heap.size V.W w') := fun V => by
    obtain ⟨a', c', ce', hie', hec', hc', _⟩ := (HK.out.below V.ok).pla
    exact (place_any V.W K o a' pb pb.length c' i ce' hie' rfl hec' hc'.1 hi hc'.2).mono fun e w' ⟨h1, h2⟩ => ⟨h1, by rw [h2]; exact Below.refl _ _⟩
  have HQ : Hid (∀ V : Unb w, Calls Tryd.prog 77 #[.pointer (some ⟨K, o, none⟩), .int .i64 ((val ((pb.drop (4 * i)).take 4) : Nat) : Int)] V.W fun e w' => e = .returned (.string (keyOf eb (val ((pb.drop (4 * i)).take 4)))) ∧ Below V.W.heap.size V.W w') := fun V => keyAt_any V.W K o _ eb pb (HK.out.below V.ok) hpl
  clear hk hi hpl
  generalize keyOf eb (val ((pb.drop (4 * i)).take 4)) = kk at *
  generalize val ((pb.drop (4 * i)).take 4) = pl at *
  unfold gtK
  go_enter Tryd.func76, Tryd.ntmps76
  go_wp2
  refine wp_region_unb (by kernel_rfl) (by kernel_rfl) ?_
  have hne9 := Unb.non w
  have U0 := Unb.cell hBk
  have U1 := Unb.cell hBq
  repeat (go_big_quiet_step (first | (go_at_call 78; exact Unb.call (HP.out _)) | (go_at_call 77; exact Unb.call (HQ.out _))))
  refine wpQuiet_nil ?_
  intro wA hb9
  have HB9 : Hid (Below w.heap.size w wA) := hb9
  clear hb9 U0 U1 hne9
  go_wp2
  go_ret
  exact ⟨by simp, HB9.out⟩
set_option maxHeartbeats 4000000 in
theorem search_any (g : Nat) (cb : Array Value) (n : Nat) (p : Nat → Bool) (w : World) (eg : ∀ args w, (callFunc g args).run Tryd.prog w = .ok (.enter g args) w) (hsz : n < 4611686018427387904)
    (hf : ∀ (W : World) (i : Nat), Below w.heap.size w W → i < n → Calls Tryd.prog g (#[.int .i64 i] ++ cb) W fun e w' => e = .returned (.bool (p i)) ∧ Below W.heap.size W w')
    (hmono : ∀ a b, a ≤ b → b < n → p a = true → p b = true) :
    Calls Tryd.prog 51 #[.int .i64 n, .func (.func g) #[] cb] w fun e w' => ∃ m : Nat, e = .returned (.int .i64 (m : Int)) ∧ m ≤ n ∧ (∀ t, t < m → p t = false) ∧ (∀ t, m ≤ t → t < n → p t = true) ∧ Below w.heap.size w w' := by
  have HF : Hid (∀ (W : World) (i : Nat), Below w.heap.size w W → i < n → Calls Tryd.prog g (#[.int .i64 i] ++ cb) W fun e w' => e = .returned (.bool (p i)) ∧ Below W.heap.size W w') := hf
  have M : Hid (∀ a b, a ≤ b → b < n → p a = true → p b = true) := hmono
  clear hf hmono
  go_enter Tryd.func51, Tryd.ntmps51
  go_wp2
  go_loopw [5, 6] (fun s5 s6 wr => ∃ (lo hi : Nat), s5 = .int .i64 lo ∧ s6 = .int .i64 hi ∧ lo ≤ hi ∧ hi ≤ n ∧ Hid (Below w.heap.size w wr ∧ (∀ t, t < lo → p t = false) ∧ (∀ t, hi ≤ t → t < n → p t = true))) (fun a b _ => (intOf b).toNat - (intOf a).toNat)
  case atStart => exact ⟨0, n, rfl, rfl, Nat.zero_le _, Nat.le_refl _, Below.refl _ _, fun t ht => absurd ht (Nat.not_lt_zero _), fun t h1 h2 => by omega⟩
  case round =>
    obtain ⟨lo, hi, rfl, rfl, hlh, hin, I⟩ := hrel
    by_cases hlt : lo < hi
    · have hc := HF.out wr ((lo + hi) / 2) I.out.1 (by omega)
      rw [show (((lo + hi) / 2 : Nat) : Int) = ((lo : Int) + (hi : Int)) / 2 by omega] at hc
      cases hp : p ((lo + hi) / 2) <;> rw [hp] at hc
      · have HP : Hid (p ((lo + hi) / 2) = false) := hp
        clear hp
        go_wp2_with (go_at_fn g; refine hc.mono ?_; rintro e w' ⟨rfl, hbw⟩; have HBW : Hid (Below wr.heap.size wr w') := hbw; clear hbw)
        go_roundw
        case measure => simp [intOf]; omega
        case rel =>
          exact ⟨(lo + hi) / 2 + 1, hi, by rw [show ((lo : Int) + (hi : Int)) / 2 + 1 = (((lo + hi) / 2 + 1 : Nat) : Int) by omega], rfl, by omega, hin, I.out.1.trans (HBW.out.mono I.out.1.size), fun t ht => (by
            cases h : p t with
            | false => rfl
            | true => have := M.out t ((lo + hi) / 2) (by omega) (by omega) h; rw [HP.out] at this; cases this), I.out.2.2⟩
      · have HP : Hid (p ((lo + hi) / 2) = true) := hp
        clear hp
        go_wp2_with (go_at_fn g; refine hc.mono ?_; rintro e w' ⟨rfl, hbw⟩; have HBW : Hid (Below wr.heap.size wr w') := hbw; clear hbw)
        go_roundw
        case measure => simp [intOf]; omega
        case rel =>
          exact ⟨lo, (lo + hi) / 2, rfl, by rw [show ((lo : Int) + (hi : Int)) / 2 = (((lo + hi) / 2 : Nat) : Int) by omega], by omega, by omega, I.out.1.trans (HBW.out.mono I.out.1.size), I.out.2.1, fun t ht htn => M.out ((lo + hi) / 2) t ht htn HP.out⟩
    · obtain rfl : hi = lo := by omega
      go_wp2
      go_ret
      exact ⟨hi, rfl, hin, I.out.2.1, I.out.2.2, I.out.1⟩
end Qb
end Go.Proofs.YtnhhalabmmcemaaDoor
namespace Go.Proofs.YtnhhalabmmcemaaDoor
namespace Qb
open Go.RowKit Go.Shelf CMath Byt Laws Irw Crw Cod Qe
set_option linter.unusedVariables false
set_option linter.unusedSimpArgs false
set_option maxRecDepth 100000

/-- A restart point's place, and the key there. -/
theorem at_restart {r : Nat} {l : List En} (hr : 1 ≤ r) (hok : ∀ e ∈ l, Ok e ∧ 0 ≤ e.2.1) (hb : (pushes r st0 l).b.length < 4294967296) {i : Nat} (hi : r * i < l.length) :
    4 * i + 4 ≤ (pushes r st0 l).p.length ∧ val (((pushes r st0 l).p.drop (4 * i)).take 4) = (pushes r st0 (l.take (r * i))).b.length ∧ (pushes r st0 (l.take (r * i))).b.length ≤ (pushes r st0 l).b.length ∧ ∃ x, l[r * i]? = some x ∧ keyOf (pushes r st0 l).b (pushes r st0 (l.take (r * i))).b.length = x.1 := by
  have hp := places hr l
  have hm := (mres_lt hr l.length i).1 hi
  have hw := wk_from hok (Nat.le_of_lt hi) (mul_mod0 r i)
  refine ⟨by rw [hp.1]; omega, ?_, hw.1, ?_⟩
  · rw [hp.2 i hi]
    exact four_val (Nat.lt_of_le_of_lt hw.1 hb)
  · have hx : l[r * i]? = some (l[r * i]'hi) := List.getElem?_eq_getElem hi
    refine ⟨_, hx, ?_⟩
    have h2 := hw.2
    rw [List.drop_eq_getElem_cons hi] at h2
    unfold keyOf
    cases hwk : wk ((pushes r st0 l).b.drop (pushes r st0 (l.take (r * i))).b.length) [] with
    | nil => rw [hwk] at h2; cases h2
    | cons y t =>
      rw [hwk] at h2
      simp only [List.map_cons, List.cons.injEq] at h2
      show y.1.1 = _
      rw [h2.1]
theorem gtK_lt {x y : ByteArray} (h : Op.bytesLess y.toList x.toList = true) : gtK x y = true := by
  unfold gtK
  rw [KMath.bl_asymm _ _ h]
  have : (x.toList == y.toList) = false := by
    rw [beq_eq_false_iff_ne]; intro e; rw [e, KMath.bl_irrefl] at h; cases h
  rw [this]; rfl
theorem gtK_is {x y : ByteArray} (h : gtK x y = true) : Op.bytesLess y.toList x.toList = true := by
  unfold gtK at h
  simp only [Bool.not_eq_true', Bool.or_eq_false_iff] at h
  cases hb : Op.bytesLess y.toList x.toList with
  | true => rfl
  | false =>
    have := KMath.bl_tri _ _ h.1 hb
    rw [this] at h
    simp at h
theorem gtK_no {x y : ByteArray} (h : gtK x y = false) {z : ByteArray} (hz : Op.bytesLess z.toList x.toList = true) : Op.bytesLess z.toList y.toList = true := by
  cases hb : Op.bytesLess x.toList y.toList with
  | true => exact KMath.bl_trans _ _ _ hz hb
  | false =>
    cases hb2 : Op.bytesLess y.toList x.toList with
    | true => rw [gtK_lt hb2] at h; cases h
    | false => rw [← KMath.bl_tri _ _ hb hb2]; exact hz
def RfIs (w : World) (r : Nat) (l : List En) (key : ByteArray) (e : Ending) (w' : World) : Prop := ∃ k pl, e = .returned (.int .i64 ((pl : Nat) : Int)) ∧ pl = (pushes r st0 (l.take k)).b.length ∧ k ≤ l.length ∧ k % r = 0 ∧ (∀ i x, i < k → l[i]? = some x → Op.bytesLess x.1.toList key.toList = true) ∧ Below w.heap.size w w'
set_option maxHeartbeats 1000000 in
theorem restartFor_any (w : World) (K o r : Nat) (l : List En) (key : ByteArray) (hr : 1 ≤ r) (hk : BlkZ w K o (pushes r st0 l).b (pushes r st0 l).p) (hc : chain ⟨#[]⟩ l) (h0 : ∀ e ∈ l, 0 ≤ e.2.1) (hb : (pushes r st0 l).b.length < 4294967296) (hp : (pushes r st0 l).p.length ≤ 1000000000000) :
    Calls Tryd.prog 55 #[.pointer (some ⟨K, o, none⟩), .string key] w fun e w' => RfIs w r l key e w' := by
  have hok : ∀ e ∈ l, Ok e ∧ 0 ≤ e.2.1 := fun e he => ⟨chain_ok hc e he, h0 e he⟩
  have hpl := places hr l
  have hn : (pushes r st0 l).p.length / 4 = mres r l.length := by rw [hpl.1]; omega
  have hmf : ∀ (fn : Fn) (first cap : Array Value) (w : World), (Instr.makeFunc fn first cap).run Tryd.prog w = .ok (.func fn first cap) w := fun _ _ _ _ => rfl
  obtain ⟨W1, hW1⟩ : ∃ W1, W1 = (w.alloc (.cells #[.pointer (some ⟨K, o, none⟩)] 69)).alloc (.cells #[.string key] 9) := ⟨_, rfl⟩
  have hb1 : Below w.heap.size w W1 := by rw [hW1]; exact ((Below.refl _ _).alloc (Nat.le_refl _) _).alloc (by simp) _
  have c1 : W1.cell? ⟨w.heap.size, 0, none⟩ = some (.pointer (some ⟨K, o, none⟩)) := by rw [hW1]; simp
  have c2 : W1.cell? ⟨w.heap.size + 1, 0, none⟩ = some (.string key) := by rw [hW1]; simp
  have HK1 : Hid (BlkZ W1 K o (pushes r st0 l).b (pushes r st0 l).p) := hk.below hb1
  obtain ⟨a', c', ce', hie', hec', hc', _⟩ := HK1.out.pla
  have HR : Hid (Calls Tryd.prog 61 #[.pointer (some ⟨K, o, none⟩)] W1 fun e w' => e = .returned (.int .i64 ((mres r l.length : Nat) : Int)) ∧ w' = W1) := by
    have := restarts_any W1 K o a' _ c' ce' hp
    rw [hn] at this
    exact this
  have HF : Hid (∀ (W : World) (i : Nat), Below W1.heap.size W1 W → i < mres r l.length → Calls Tryd.prog 76 (#[.int .i64 (i : Int)] ++ #[.pointer (some ⟨w.heap.size, 0, none⟩), .pointer (some ⟨w.heap.size + 1, 0, none⟩)]) W fun e w' => e = .returned (.bool (gtK (keyOf (pushes r st0 l).b (val (((pushes r st0 l).p.drop (4 * i)).take 4))) key)) ∧ Below W.heap.size W w') := fun W i hbW hi => by
    have hi' := (mres_lt hr l.length i).2 hi
    obtain ⟨q1, q2, q3, _⟩ := at_restart hr hok hb hi'
    exact restartForC_any W _ _ K o i key _ _ (HK1.out.below hbW) ((hbW.cell (p := ⟨w.heap.size, 0, none⟩) (World.block_lt_of_cell? W1 _ c1)).trans c1) ((hbW.cell (p := ⟨w.heap.size + 1, 0, none⟩) (World.block_lt_of_cell? W1 _ c2)).trans c2) q1 (by rw [q2]; exact q3)
  have key_at : ∀ i, i < mres r l.length → ∃ x, l[r * i]? = some x ∧ keyOf (pushes r st0 l).b (val (((pushes r st0 l).p.drop (4 * i)).take 4)) = x.1 := fun i hi => by
    obtain ⟨_, q2, _, x, q3, q4⟩ := at_restart hr hok hb ((mres_lt hr l.length i).2 hi)
    exact ⟨x, q3, by rw [q2]; exact q4⟩
  have hml : mres r l.length < 4611686018427387904 := by omega
  have HS : Hid (Calls Tryd.prog 51 #[.int .i64 (mres r l.length : Nat), .func (.func 76) #[] #[.pointer (some ⟨w.heap.size, 0, none⟩), .pointer (some ⟨w.heap.size + 1, 0, none⟩)]] W1 fun e w' => ∃ m : Nat, e = .returned (.int .i64 (m : Int)) ∧ m ≤ mres r l.length ∧ (∀ t, t < m → gtK (keyOf (pushes r st0 l).b (val (((pushes r st0 l).p.drop (4 * t)).take 4))) key = false) ∧ (∀ t, m ≤ t → t < mres r l.length → gtK (keyOf (pushes r st0 l).b (val (((pushes r st0 l).p.drop (4 * t)).take 4))) key = true) ∧ Below W1.heap.size W1 w') := by
    refine search_any 76 _ _ (fun i => gtK (keyOf (pushes r st0 l).b (val (((pushes r st0 l).p.drop (4 * i)).take 4))) key) W1 (enters_of Tryd.func76 (by kernel_rfl) rfl) hml HF.out (fun a b hab hbn hpa => ?_)
    obtain ⟨x, hx, ex⟩ := key_at a (by omega)
    obtain ⟨y, hy, ey⟩ := key_at b hbn
    rw [ex] at hpa
    rw [ey]
    have h1 := gtK_is hpa
    rcases Nat.lt_or_ge a b with hlt | hge
    · exact gtK_lt (KMath.bl_trans _ _ _ h1 (chain_lt hc (r * a) (r * b) x y hx hy (Nat.mul_lt_mul_of_pos_left hlt (by omega))))
    · have : a = b := by omega
      subst this
      rw [hx] at hy; cases hy
      exact gtK_lt h1
  have HPL : Hid (∀ (m : Nat) (W : World), m < mres r l.length → Below W1.heap.size W1 W → Calls Tryd.prog 78 #[.pointer (some ⟨K, o, none⟩), .int .i64 (m : Int)] W fun e w' => e = .returned (.int .i64 (((pushes r st0 (l.take (r * m))).b.length : Nat) : Int)) ∧ w' = W) := fun m W hm hbW => by
    obtain ⟨q1, q2, q3, _⟩ := at_restart hr hok hb ((mres_lt hr l.length m).2 hm)
    obtain ⟨a2, c2', ce2, hie2, hec2, hc2, _⟩ := (HK1.out.below hbW).pla
    have := place_any W K o a2 _ _ c2' m ce2 hie2 rfl hec2 hc2.1 q1 hp
    rw [q2] at this
    exact this
  have HKA : Hid (∀ i, i < mres r l.length → ∃ x, l[r * i]? = some x ∧ keyOf (pushes r st0 l).b (val (((pushes r st0 l).p.drop (4 * i)).take 4)) = x.1) := key_at
  have HCH : Hid (chain ⟨#[]⟩ l ∧ 1 ≤ r) := ⟨hc, hr⟩
  have HB1 : Hid (Below w.heap.size w W1) := hb1
  have HPM : Hid (mres r l.length ≤ 1000000000000 ∧ ∀ i, i < mres r l.length → r * i ≤ l.length) := ⟨by show _ ≤ _; omega, fun i hi => Nat.le_of_lt ((mres_lt hr l.length i).2 hi)⟩
  clear hk hc h0 hb hp hok hpl hn ce' hie' hec' hc' HF key_at hr hb1 HK1
  generalize hNN : mres r l.length = NN at *
  clear hNN
  subst hW1
  have HC1 : Hid (((w.alloc (.cells #[.pointer (some ⟨K, o, none⟩)] 69)).alloc (.cells #[.string key] 9)).cell? ⟨w.heap.size, 0, none⟩ = some (.pointer (some ⟨K, o, none⟩))) := c1
  clear c1 c2
  have hnn : NN ≤ 1000000000000 := HPM.out.1
  clear hml
  go_enter Tryd.func55, Tryd.ntmps55
  go_wp2_with (go_at_call 61; go_loud (refine HR.out.mono ?_; rintro e w1 ⟨rfl, hw⟩; have hw2 := hw.symm; clear hw; subst hw2))
  refine HS.out.mono ?_
  rintro e w2 ⟨m, rfl, hm, hlo, hhi, hb2⟩
  have HLO : Hid (∀ t, t < m → gtK (keyOf (pushes r st0 l).b (val (((pushes r st0 l).p.drop (4 * t)).take 4))) key = false) := hlo
  have HB2 : Hid (Below ((w.alloc (.cells #[.pointer (some ⟨K, o, none⟩)] 69)).alloc (.cells #[.string key] 9)).heap.size ((w.alloc (.cells #[.pointer (some ⟨K, o, none⟩)] 69)).alloc (.cells #[.string key] 9)) w2) := hb2
  have c2 := (hb2.cell (p := ⟨w.heap.size, 0, none⟩) (World.block_lt_of_cell? _ _ HC1.out)).trans HC1.out
  clear hlo hhi hb2
  dsimp only
  rcases m with _ | q
  · go_wp2
    go_ret
    exact ⟨0, 0, rfl, rfl, Nat.zero_le _, Nat.zero_mod _, fun i x hi => by omega, HB1.out.trans (HB2.out.mono HB1.out.size)⟩
  · have HQ := HPL.out q w2 (by omega) HB2.out
    have HQH : Hid (Calls Tryd.prog 78 #[.pointer (some ⟨K, o, none⟩), .int .i64 (q : Int)] w2 fun e w' => e = .returned (.int .i64 (((pushes r st0 (l.take (r * q))).b.length : Nat) : Int)) ∧ w' = w2) := HQ
    clear HQ
    have HQN : Hid (q < NN) := by show _ < _; omega
    have hq1 : ¬ (((q + 1 : Nat) : Int) = 0) := by omega
    have hq2 : (((q + 1 : Nat) : Int) == 0) = false := by simpa using hq1
    have hq3 : (((q + 1 : Nat) : Int)) = (q : Int) + 1 := by omega
    rw [hq3] at hq2 hq1 ⊢
    have hq4 : (q : Int) ≤ 1000000000000 := by omega
    clear hq3 hm
    go_wp2_with (go_at_call 78; go_loud (refine HQH.out.mono ?_; rintro e w1 ⟨rfl, hw⟩; have hw2 := hw.symm; clear hw; subst hw2))
    go_ret
    refine ⟨r * q, _, rfl, rfl, HPM.out.2 q HQN.out, mul_mod0 r q, fun i x hi hx => ?_, HB1.out.trans (HB2.out.mono HB1.out.size)⟩
    obtain ⟨y, hy, ey⟩ := HKA.out q HQN.out
    have h1 := HLO.out q (by omega)
    rw [ey] at h1
    exact gtK_no h1 (chain_lt HCH.out.1 i (r * q) x y hx hy hi)
end Qb
end Go.Proofs.YtnhhalabmmcemaaDoor
