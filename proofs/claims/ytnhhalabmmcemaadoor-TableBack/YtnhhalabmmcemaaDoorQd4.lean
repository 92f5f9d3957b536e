import Derived.ControlIn
import Derived.Scope
import Derived.Test.YtnhhalabmmcemaaDoorProg
import Derived.Test.YtnhhalabmmcemaaDoorQd3
import Derived.Test.YtnhhalabmmcemaaDoorQc6
namespace Go.Proofs.YtnhhalabmmcemaaDoor
namespace Qb
open Go
variable {F : Fence} {n : Nat} {P : Program} {Q : Exit → Act → World → Prop} {a : Act} {w : World}

theorem stepR_scope {c : Code} {b : Frame} {k : List Item} {cs : List Frame} : step P (lone (b.atR a (.code (.scope c) :: k)) cs w) = .next (lone (b.atR a (.code c :: .inScope c :: k)) cs w) :=
  step_lone_go (by simp [stepG, stepG.exec, Frame.atR])
theorem stepR_inScope {c : Code} {b : Frame} {k : List Item} {cs : List Frame} : step P (lone (b.atR a (.inScope c :: k)) cs w) = .next (lone (b.atR a k) cs w) :=
  step_lone_go (by simp [stepG, stepG.exec, Frame.atR])
/-- A scope through which the run goes without a jump, in a fence. -/
theorem wpIn_scope {c : Code} (h : c.wpIn F n P (Exit.noGoto Q) a w) : (Code.scope c).wpIn F n P Q a w := by
  intro b k cs hro hb hr
  have h0 : (lone (b.atR a (.code (.scope c) :: k)) cs w).fenced P F := fenced_calm hb hr rfl
  obtain ⟨e, a₁, w₁, hq, harr⟩ := h b (.inScope c :: k) cs hro hb hr
  cases e with
  | normal => exact ⟨.normal, a₁, w₁, hq, .head h0 stepR_scope (StepsIn.trans harr (.one (fenced_calm hb hr rfl) stepR_inScope))⟩
  | exit id' =>
    have hx : exitTo id' (.inScope c :: k) = exitTo id' k := by simp [exitTo]
    exact ⟨.exit id', a₁, w₁, hq, fun k' hk => .head h0 stepR_scope (harr.1 k' (by rw [hx]; exact hk)),
        fun hr' hk => let ⟨k₁, h1, h2⟩ := harr.2 hr' (by rw [hx]; exact hk); ⟨k₁, h1, .head h0 stepR_scope h2⟩⟩
  | goto l => exact hq.elim
  | ret => exact ⟨_, a₁, w₁, hq, .of_steps (.one h0 stepR_scope) harr⟩
  | panic ch => exact ⟨_, a₁, w₁, hq, .of_steps (.one h0 stepR_scope) harr⟩
  | outgrown => exact ⟨_, a₁, w₁, hq, .of_steps (.one h0 stepR_scope) harr⟩
end Qb
end Go.Proofs.YtnhhalabmmcemaaDoor
namespace Go.Proofs.YtnhhalabmmcemaaDoor
namespace Qb
open Go.RowKit Go.Shelf CMath Byt Laws Irw Crw Cod Qe
set_option linter.unusedVariables false
set_option linter.unusedSimpArgs false
set_option maxRecDepth 100000
attribute [local go_sem] Oper.semAt_some

/-- where the loop of Seek stands: what was found -/
structure Sx (w : World) (key : ByteArray) (f : En) (ok : Bool) (W : World) : Prop where
  k : W.cell? ⟨w.heap.size, 0, none⟩ = some (.string key)
  r0 : W.cell? ⟨w.heap.size + 1, 0, none⟩ = some (.string ⟨#[]⟩)
  r1 : W.cell? ⟨w.heap.size + 1, 1, none⟩ = some (.int .u64 0)
  r2 : W.cell? ⟨w.heap.size + 1, 2, none⟩ = some (.bool false)
  r3 : W.cell? ⟨w.heap.size + 1, 3, none⟩ = some (.string ⟨#[]⟩)
  f0 : W.cell? ⟨w.heap.size + 2, 0, none⟩ = some (.string f.1)
  f1 : W.cell? ⟨w.heap.size + 2, 1, none⟩ = some (.int .u64 f.2.1)
  f2 : W.cell? ⟨w.heap.size + 2, 2, none⟩ = some (.bool f.2.2.1)
  f3 : W.cell? ⟨w.heap.size + 2, 3, none⟩ = some (.string f.2.2.2)
  b : W.cell? ⟨w.heap.size + 3, 0, none⟩ = some (.bool ok)
  z1 : ∀ j, W.frozen? ⟨w.heap.size + 1, j, none⟩ = false
  z2 : ∀ j, W.frozen? ⟨w.heap.size + 2, j, none⟩ = false
  z3 : ∀ j, W.frozen? ⟨w.heap.size + 3, j, none⟩ = false
  bl : Below w.heap.size w W
theorem Sx.same {w W W' : World} {key : ByteArray} {f : En} {ok : Bool} (h : Sx w key f ok W) (hk : ∀ b, w.heap.size ≤ b → b < w.heap.size + 4 → W'.heap[b]? = W.heap[b]?) (hb : Below w.heap.size w W') : Sx w key f ok W' := by
  have k0 := hk (w.heap.size) (by omega) (by omega)
  have k1 := hk (w.heap.size + 1) (by omega) (by omega)
  have k2 := hk (w.heap.size + 2) (by omega) (by omega)
  have k3 := hk (w.heap.size + 3) (by omega) (by omega)
  exact ⟨(World.cell?_of_block (a := ⟨w.heap.size, 0, none⟩) k0).trans h.k, (World.cell?_of_block (a := ⟨w.heap.size + 1, 0, none⟩) k1).trans h.r0, (World.cell?_of_block (a := ⟨w.heap.size + 1, 1, none⟩) k1).trans h.r1, (World.cell?_of_block (a := ⟨w.heap.size + 1, 2, none⟩) k1).trans h.r2, (World.cell?_of_block (a := ⟨w.heap.size + 1, 3, none⟩) k1).trans h.r3, (World.cell?_of_block (a := ⟨w.heap.size + 2, 0, none⟩) k2).trans h.f0, (World.cell?_of_block (a := ⟨w.heap.size + 2, 1, none⟩) k2).trans h.f1, (World.cell?_of_block (a := ⟨w.heap.size + 2, 2, none⟩) k2).trans h.f2, (World.cell?_of_block (a := ⟨w.heap.size + 2, 3, none⟩) k2).trans h.f3, (World.cell?_of_block (a := ⟨w.heap.size + 3, 0, none⟩) k3).trans h.b, fun j => (World.frozen?_of_block (a := ⟨w.heap.size + 1, j, none⟩) k1).trans (h.z1 j), fun j => (World.frozen?_of_block (a := ⟨w.heap.size + 2, j, none⟩) k2).trans (h.z2 j), fun j => (World.frozen?_of_block (a := ⟨w.heap.size + 3, j, none⟩) k3).trans (h.z3 j), hb⟩
theorem Sx.grown {w A C : World} {key : ByteArray} {f : En} {ok : Bool} {row : Option Nat} (h : Sx w key f ok A) (hg : A.grownBy C row) (hr : ∀ r, row = some r → w.heap.size + 4 ≤ r) : Sx w key f ok C :=
  h.same (fun b h1 h2 => hg.block b (by have := World.block_lt_of_cell? A _ h.b; simp only at this; omega) (fun e => by have := hr b e.symm; omega)) (below_grown (B := 0) h.bl hg (Nat.le_refl _) (fun r e => by have := hr r e; omega))
theorem Sx.found {w W : World} {key : ByteArray} {f : En} {ok : Bool} (h : Sx w key f ok W) (e : En) : Sx w key e true (((((W.setCell ⟨w.heap.size + 2, 0, none⟩ (.string e.1)).setCell ⟨w.heap.size + 2, 1, none⟩ (.int .u64 e.2.1)).setCell ⟨w.heap.size + 2, 2, none⟩ (.bool e.2.2.1)).setCell ⟨w.heap.size + 2, 3, none⟩ (.string e.2.2.2)).setCell ⟨w.heap.size + 3, 0, none⟩ (.bool true)) := by
  have fs := four_set (.string e.1) (.int .u64 e.2.1) (.bool e.2.2.1) (.string e.2.2.2) h.f0 h.f1 h.f2 h.f3
  have ot : ∀ {b j : Nat} {v : Value}, b ≠ w.heap.size + 2 → b ≠ w.heap.size + 3 → W.cell? ⟨b, j, none⟩ = some v → (((((W.setCell ⟨w.heap.size + 2, 0, none⟩ (.string e.1)).setCell ⟨w.heap.size + 2, 1, none⟩ (.int .u64 e.2.1)).setCell ⟨w.heap.size + 2, 2, none⟩ (.bool e.2.2.1)).setCell ⟨w.heap.size + 2, 3, none⟩ (.string e.2.2.2)).setCell ⟨w.heap.size + 3, 0, none⟩ (.bool true)).cell? ⟨b, j, none⟩ = some v := fun {b j v} n2 n3 hv => by
    have hn : ∀ (c i : Nat), b ≠ c → (⟨c, i, none⟩ : Addr) ≠ ⟨b, j, none⟩ := fun c i hc he => hc (congrArg Addr.block he).symm
    rw [World.cell?_setCell_other _ _ _ _ (hn _ _ n3), World.cell?_setCell_other _ _ _ _ (hn _ _ n2), World.cell?_setCell_other _ _ _ _ (hn _ _ n2), World.cell?_setCell_other _ _ _ _ (hn _ _ n2), World.cell?_setCell_other _ _ _ _ (hn _ _ n2)]
    exact hv
  have o2 : ∀ {j : Nat} {v : Value}, ((((W.setCell ⟨w.heap.size + 2, 0, none⟩ (.string e.1)).setCell ⟨w.heap.size + 2, 1, none⟩ (.int .u64 e.2.1)).setCell ⟨w.heap.size + 2, 2, none⟩ (.bool e.2.2.1)).setCell ⟨w.heap.size + 2, 3, none⟩ (.string e.2.2.2)).cell? ⟨w.heap.size + 2, j, none⟩ = some v → (((((W.setCell ⟨w.heap.size + 2, 0, none⟩ (.string e.1)).setCell ⟨w.heap.size + 2, 1, none⟩ (.int .u64 e.2.1)).setCell ⟨w.heap.size + 2, 2, none⟩ (.bool e.2.2.1)).setCell ⟨w.heap.size + 2, 3, none⟩ (.string e.2.2.2)).setCell ⟨w.heap.size + 3, 0, none⟩ (.bool true)).cell? ⟨w.heap.size + 2, j, none⟩ = some v := fun {j v} hv => by
    rw [World.cell?_setCell_other _ _ _ _ (by intro he; have := congrArg Addr.block he; simp at this)]
    exact hv
  have o3 : ((((W.setCell ⟨w.heap.size + 2, 0, none⟩ (.string e.1)).setCell ⟨w.heap.size + 2, 1, none⟩ (.int .u64 e.2.1)).setCell ⟨w.heap.size + 2, 2, none⟩ (.bool e.2.2.1)).setCell ⟨w.heap.size + 2, 3, none⟩ (.string e.2.2.2)).cell? ⟨w.heap.size + 3, 0, none⟩ = some (.bool ok) := by
    have hn : ∀ (i : Nat), (⟨w.heap.size + 2, i, none⟩ : Addr) ≠ ⟨w.heap.size + 3, 0, none⟩ := fun i he => by have := congrArg Addr.block he; simp at this
    rw [World.cell?_setCell_other _ _ _ _ (hn _), World.cell?_setCell_other _ _ _ _ (hn _), World.cell?_setCell_other _ _ _ _ (hn _), World.cell?_setCell_other _ _ _ _ (hn _)]
    exact h.b
  refine ⟨ot (by omega) (by omega) h.k, ot (by omega) (by omega) h.r0, ot (by omega) (by omega) h.r1, ot (by omega) (by omega) h.r2, ot (by omega) (by omega) h.r3, o2 fs.1, o2 fs.2.1, o2 fs.2.2.1, o2 fs.2.2.2, World.cell?_setCell_same _ _ _ o3, fun j => ?_, fun j => ?_, fun j => ?_, ?_⟩
  · simp only [World.frozen?_setCell]; exact h.z1 j
  · simp only [World.frozen?_setCell]; exact h.z2 j
  · simp only [World.frozen?_setCell]; exact h.z3 j
  · exact (four_below (B := w.heap.size + 2) _ _ _ _ h.bl (by omega)).setCell (p := ⟨w.heap.size + 3, 0, none⟩) (by simp) _
def SxEnd (w : World) (key : ByteArray) (es : List (Nat × En)) (W : World) : Prop := ∃ es' x, es = es' ++ [x] ∧ (∀ e ∈ es'.map Prod.snd, Op.bytesLess e.1.toList key.toList = true) ∧ Op.bytesLess x.2.1.toList key.toList = false ∧ Sx w key x.2 true W
theorem Sx.answer {w W w' : World} {key : ByteArray} {f : En} {ok : Bool} {D : Nat} (h : Sx w key f ok W) (hD : w.heap.size + 4 ≤ D)
    (hb : Below w.heap.size (((((W.setCell ⟨w.heap.size + 1, 0, none⟩ (.string f.1)).setCell ⟨w.heap.size + 1, 1, none⟩ (.int .u64 f.2.1)).setCell ⟨w.heap.size + 1, 2, none⟩ (.bool f.2.2.1)).setCell ⟨w.heap.size + 1, 3, none⟩ (.string f.2.2.2)).drew) w')
    (hk : ∀ b, b ∉ [D] → w'.heap[b]? = (((((W.setCell ⟨w.heap.size + 1, 0, none⟩ (.string f.1)).setCell ⟨w.heap.size + 1, 1, none⟩ (.int .u64 f.2.1)).setCell ⟨w.heap.size + 1, 2, none⟩ (.bool f.2.2.1)).setCell ⟨w.heap.size + 1, 3, none⟩ (.string f.2.2.2)).drew).heap[b]?) :
    w'.cell? ⟨w.heap.size + 1, 0, none⟩ = some (.string f.1) ∧ w'.cell? ⟨w.heap.size + 1, 1, none⟩ = some (.int .u64 f.2.1) ∧ w'.cell? ⟨w.heap.size + 1, 2, none⟩ = some (.bool f.2.2.1) ∧ w'.cell? ⟨w.heap.size + 1, 3, none⟩ = some (.string f.2.2.2) ∧ Below w.heap.size w w' := by
  have fs := four_set (.string f.1) (.int .u64 f.2.1) (.bool f.2.2.1) (.string f.2.2.2) h.r0 h.r1 h.r2 h.r3
  have hfb := four_below (B := w.heap.size + 1) (.string f.1) (.int .u64 f.2.1) (.bool f.2.2.1) (.string f.2.2.2) h.bl (by omega)
  have k1 := hk (w.heap.size + 1) (by simp; omega)
  clear hk
  generalize ((((W.setCell ⟨w.heap.size + 1, 0, none⟩ (.string f.1)).setCell ⟨w.heap.size + 1, 1, none⟩ (.int .u64 f.2.1)).setCell ⟨w.heap.size + 1, 2, none⟩ (.bool f.2.2.1)).setCell ⟨w.heap.size + 1, 3, none⟩ (.string f.2.2.2)) = X at *
  have k2 : w'.heap[w.heap.size + 1]? = X.heap[w.heap.size + 1]? := k1
  have c : ∀ j, w'.cell? ⟨w.heap.size + 1, j, none⟩ = X.cell? ⟨w.heap.size + 1, j, none⟩ := fun j => World.cell?_of_block (a := ⟨w.heap.size + 1, j, none⟩) k2
  exact ⟨(c 0).trans fs.1, (c 1).trans fs.2.1, (c 2).trans fs.2.2.1, (c 3).trans fs.2.2.2, hfb.drew.trans hb⟩
theorem Sx.marks {w W : World} {key : ByteArray} {f : En} {ok : Bool} {D : Nat} (h : Sx w key f ok W) (hD : w.heap.size + 4 ≤ D) (hDd : W.heap[D]? = some (.deferred (some []))) :
    ∀ E ∈ [D], w.heap.size ≤ E ∧ (((((W.setCell ⟨w.heap.size + 1, 0, none⟩ (.string f.1)).setCell ⟨w.heap.size + 1, 1, none⟩ (.int .u64 f.2.1)).setCell ⟨w.heap.size + 1, 2, none⟩ (.bool f.2.2.1)).setCell ⟨w.heap.size + 1, 3, none⟩ (.string f.2.2.2)).drew).heap[E]? = some (.deferred (some [])) := fun E hE => by
  rw [List.mem_singleton.1 hE]
  refine ⟨by omega, ?_⟩
  show ((((W.setCell _ _).setCell _ _).setCell _ _).setCell _ _).heap[D]? = _
  rw [Below.heap_setCell _ _ _ D (by simp; omega), Below.heap_setCell _ _ _ D (by simp; omega), Below.heap_setCell _ _ _ D (by simp; omega), Below.heap_setCell _ _ _ D (by simp; omega)]
  exact hDd
def skV (o : Option En) : Value := .tuple #[match o with | none => .agg #[.string ⟨#[]⟩, .int .u64 0, .bool false, .string ⟨#[]⟩] | some e => .agg #[.string e.1, .int .u64 e.2.1, .bool e.2.2.1, .string e.2.2.2], .bool o.isSome]
theorem wkp_fst (eb : List Nat) (pl : Nat) : (wkp eb pl).map Prod.snd = (wk (eb.drop pl) []).map Prod.fst := by
  unfold wkp
  rw [pos_snd]
theorem skE_none {l : List En} {key : ByteArray} (h : ∀ e ∈ l, Op.bytesLess e.1.toList key.toList = true) : skE l key = none := by
  unfold skE
  rw [List.find?_eq_none]
  intro x hx
  rw [h x hx]; simp
theorem skE_some {l m : List En} {x : En} {key : ByteArray} (hp : l ++ [x] <+: m) (h : ∀ e ∈ l, Op.bytesLess e.1.toList key.toList = true) (hx : Op.bytesLess x.1.toList key.toList = false) : skE m key = some x := by
  obtain ⟨t, rfl⟩ := hp
  unfold skE
  rw [List.append_assoc, List.find?_append]
  have : l.find? (fun e => !Op.bytesLess e.1.toList key.toList) = none := skE_none h
  rw [this]
  simp [hx]
set_option maxHeartbeats 2000000 in
theorem seek_in (w : World) (K o r : Nat) (l : List En) (key : ByteArray) (hr : 1 ≤ r) (hk : BlkZ w K o (pushes r st0 l).b (pushes r st0 l).p) (hc : chain ⟨#[]⟩ l) (h0 : ∀ e ∈ l, 0 ≤ e.2.1) (hb : (pushes r st0 l).b.length < 4294967296) (hp : (pushes r st0 l).p.length ≤ 1000000000000) :
    CallsIn Fence.wide 7 Tryd.prog 30 #[.pointer (some ⟨K, o, none⟩), .string key] w fun e w' => e = .returned (skV (skE l key)) ∧ Below w.heap.size w w' := by
  have hok : ∀ e ∈ l, Ok e ∧ 0 ≤ e.2.1 := fun e he => ⟨chain_ok hc e he, h0 e he⟩
  obtain ⟨W4, hW4⟩ : ∃ W4, W4 = (((w.alloc (.cells #[.string key] 9)).alloc (.cells #[.string ⟨#[]⟩, .int .u64 0, .bool false, .string ⟨#[]⟩] 43)).alloc (.cells #[.string ⟨#[]⟩, .int .u64 0, .bool false, .string ⟨#[]⟩] 43)).alloc (.cells #[.bool false] 4) := ⟨_, rfl⟩
  have hb4 : Below w.heap.size w W4 := by rw [hW4]; exact ((((Below.refl _ _).alloc (Nat.le_refl _) _).alloc (by simp) _).alloc (by simp; omega) _).alloc (by simp; omega) _
  have hs4 : W4.heap.size = w.heap.size + 4 := by rw [hW4]; simp
  have S4 : Sx w key (⟨#[]⟩, 0, false, ⟨#[]⟩) false W4 := by
    have g0 : W4.heap[w.heap.size]? = some (.cells #[.string key] 9) := by
      rw [hW4, Below.heap_alloc _ _ _ (by simp <;> omega), Below.heap_alloc _ _ _ (by simp <;> omega), Below.heap_alloc _ _ _ (by simp <;> omega)]
      exact World.alloc_heap_new w _
    have g1 : W4.heap[w.heap.size + 1]? = some (.cells #[.string ⟨#[]⟩, .int .u64 0, .bool false, .string ⟨#[]⟩] 43) := by
      rw [hW4, Below.heap_alloc _ _ _ (by simp <;> omega), Below.heap_alloc _ _ _ (by simp <;> omega)]
      have := World.alloc_heap_new (w.alloc (.cells #[.string key] 9)) (.cells #[.string ⟨#[]⟩, .int .u64 0, .bool false, .string ⟨#[]⟩] 43)
      rwa [World.size_alloc] at this
    have g2 : W4.heap[w.heap.size + 2]? = some (.cells #[.string ⟨#[]⟩, .int .u64 0, .bool false, .string ⟨#[]⟩] 43) := by
      rw [hW4, Below.heap_alloc _ _ _ (by simp <;> omega)]
      have := World.alloc_heap_new ((w.alloc (.cells #[.string key] 9)).alloc (.cells #[.string ⟨#[]⟩, .int .u64 0, .bool false, .string ⟨#[]⟩] 43)) (.cells #[.string ⟨#[]⟩, .int .u64 0, .bool false, .string ⟨#[]⟩] 43)
      rwa [World.size_alloc, World.size_alloc] at this
    have g3 : W4.heap[w.heap.size + 3]? = some (.cells #[.bool false] 4) := by
      rw [hW4]
      have := World.alloc_heap_new (((w.alloc (.cells #[.string key] 9)).alloc (.cells #[.string ⟨#[]⟩, .int .u64 0, .bool false, .string ⟨#[]⟩] 43)).alloc (.cells #[.string ⟨#[]⟩, .int .u64 0, .bool false, .string ⟨#[]⟩] 43)) (.cells #[.bool false] 4)
      rwa [World.size_alloc, World.size_alloc, World.size_alloc] at this
    exact ⟨by rw [cell_of_obj g0]; rfl, by rw [cell_of_obj g1]; rfl, by rw [cell_of_obj g1]; rfl, by rw [cell_of_obj g1]; rfl, by rw [cell_of_obj g1]; rfl, by rw [cell_of_obj g2]; rfl, by rw [cell_of_obj g2]; rfl, by rw [cell_of_obj g2]; rfl, by rw [cell_of_obj g2]; rfl, by rw [cell_of_obj g3]; rfl, fun j => froz_of_obj g1, fun j => froz_of_obj g2, fun j => froz_of_obj g3, hb4⟩
  have HS4 : Hid (Sx w key (⟨#[]⟩, 0, false, ⟨#[]⟩) false W4) := S4
  have HRF : Hid (Calls Tryd.prog 55 #[.pointer (some ⟨K, o, none⟩), .string key] W4 fun e w' => RfIs W4 r l key e w') := restartFor_any W4 K o r l key hr (hk.below hb4) hc h0 hb hp
  have HWF : Hid (∀ k, k ≤ l.length → k % r = 0 → (pushes r st0 (l.take k)).b.length ≤ (pushes r st0 l).b.length ∧ (wkp (pushes r st0 l).b (pushes r st0 (l.take k)).b.length).map Prod.snd = l.drop k) := fun k h1 h2 => by
    have := wk_from hok h1 h2
    exact ⟨this.1, by rw [wkp_fst]; exact this.2⟩
  have HK4 : Hid (BlkZ W4 K o (pushes r st0 l).b (pushes r st0 l).p) := hk.below hb4
  clear hk hc h0 hb hp hok hr S4 hb4
  refine callsIn_of_wp_marks Tryd.func30 rfl trivial ?_ rfl
  simp only [Tryd.ntmps30, List.size_toArray, List.length_cons, List.length_nil, Nat.reduceAdd, Nat.reduceSub, Array.replicate_succ, Array.replicate_zero, List.push_toArray, List.append_toArray, List.nil_append, List.cons_append]
  have hf1 : Fence.wide.fn 55 := trivial
  have hf3 : Fence.wide.fn 54 := trivial
  gi_wp2_with fail
  refine wpIn_scope ?_
  gi_wp2_with fail
  first | refine wpIn_label ?_ | skip
  gi_wp2_with fail
  try rw [← hW4]
  clear hW4
  rw [show w.heap.size + 1 + 1 + 1 = w.heap.size + 3 from rfl, show w.heap.size + 1 + 1 = w.heap.size + 2 from rfl]
  refine (callsIn_wide.2 HRF.out).mono ?_
  rintro e w5 ⟨k, pl, rfl, hpl9, hkl, hkr, hlow, hb5⟩
  have HPL9 : Hid (pl = (pushes r st0 (l.take k)).b.length) := hpl9
  clear hpl9
  dsimp only
  gi_wp2_with fail
  refine (callsIn_wide.2 (walk_any w5 K o pl)).mono ?_
  rintro e w6 ⟨rfl, hb6, hs6, c6a, c6b⟩
  dsimp only
  have s5 := hb5.size
  have hb46 : Below W4.heap.size W4 w6 := hb5.trans (hb6.mono s5)
  have HS6 : Hid (Sx w key (⟨#[]⟩, 0, false, ⟨#[]⟩) false w6) := HS4.out.same (fun b _ h2 => hb46.block b (by omega)) (HS4.out.bl.trans (hb46.mono (by omega)))
  have hwf := HWF.out k hkl hkr
  rw [← HPL9.out] at hwf
  have HEQ : Hid (skE ((wkp (pushes r st0 l).b pl).map Prod.snd) key = skE l key) := by show _ = _; rw [hwf.2]; exact skE_drop hlow
  have HSQ : Hid (SeqE (fun _ => False) Fence.wide 6 5 Tryd.prog 74 #[.pointer (some ⟨w5.heap.size, 0, none⟩), .pointer (some ⟨w5.heap.size + 1, 0, none⟩)] encP (wkp (pushes r st0 l).b pl) w6 (fun _ => 0)) := walk_seq (fun _ => False) (fun z => z) 6 (by decide) _ _ _ K o pl _ _ w6 hwf.1 (HK4.out.below hb46) (fun _ _ => rfl) c6a c6b (fun z => z) (fun z => z)
  have qs6 : w.heap.size + 4 ≤ w6.heap.size := by omega
  generalize wkp (pushes r st0 l).b pl = post at *
  clear hb5 hb6 hs6 c6a c6b s5 hb46 hwf hkl hkr hlow HPL9 hs4 HRF HWF HK4 HS4
  gi_wp2
  refine range_e rfl (by decide) (gf := 74) (lb := #[.pointer (some ⟨w5.heap.size, 0, none⟩), .pointer (some ⟨w5.heap.size + 1, 0, none⟩)]) rfl trivial (enters_of Tryd.func74 (by kernel_rfl) rfl)
    (fun _ => False) (fun z => z) (fun _ => 0) (fun _ _ => rfl) HSQ.out (fun _ => rfl)
    (fun es _ W => (∀ e ∈ es.map Prod.snd, Op.bytesLess e.1.toList key.toList = true) ∧ Sx w key (⟨#[]⟩, 0, false, ⟨#[]⟩) false W) (fun c es _ W => c = .exit 0 ∧ SxEnd w key es W)
    (fun es T A C row h hg hr => ⟨h.1, h.2.grown hg (fun r e => Nat.le_trans qs6 (hr r e).1)⟩) (fun c es T A C row h hg hr => ⟨h.1, by obtain ⟨es', x, h1, h2, h3, h4⟩ := h.2; exact ⟨es', x, h1, h2, h3, h4.grown hg (fun r e => Nat.le_trans qs6 (hr r e).1)⟩⟩) ⟨by simp, HS6.out⟩
    (fun e a' Wc W' => W' = Wc.alloc (.cells #[.string e.2.1, .int .u64 e.2.2.1, .bool e.2.2.2.1, .string e.2.2.2.2] 43) ∧ a' = { tmps := #[.pointer (some ⟨K, o, none⟩), .string key, undef, .pointer (some ⟨w.heap.size, 0, none⟩), .pointer (some ⟨w.heap.size + 1, 0, none⟩), .bool false, .pointer (some ⟨w.heap.size + 2, 0, none⟩), .pointer (some ⟨w.heap.size + 3, 0, none⟩), undef, .pointer (some ⟨Wc.heap.size, 0, none⟩), .pointer (some ⟨K, o, none⟩), .pointer (some ⟨K, o, none⟩), .string key, .int .i64 (pl : Int), .func (.func 74) #[] #[.pointer (some ⟨w5.heap.size, 0, none⟩), .pointer (some ⟨w5.heap.size + 1, 0, none⟩)], .int .i64 (e.1 : Int), .agg #[.string e.2.1, .int .u64 e.2.2.1, .bool e.2.2.2.1, .string e.2.2.2.2], undef, undef, undef, undef, undef, undef, undef], defers := [] })
    (fun e a' Wc W' h => by rw [h.1]; exact (Below.refl _ _).alloc (Nat.le_refl _) _) ?assign ?body ?done ?stop
  case assign =>
    rintro l_ ⟨ep, ek, es_, ed, ev⟩ es T Wc Kc hi hK
    simp only [encP]
    gi_wp2
    try exact hK _ _ ⟨rfl, rfl⟩
  case body =>
    rintro l_ ⟨ep, ek, es_, ed, ev⟩ es T a' Wc W' Wb hl1 hl2 ⟨ob, ho, hoc⟩ _ ⟨hlo, hsx⟩ hz hN9 ⟨rfl, rfl⟩ hg
    dsimp only at *
    have e0 : Wb.heap[Wc.heap.size]? = some (.cells #[.string ek, .int .u64 es_, .bool ed, .string ev] 43) := (hg.block _ (by simp) (fun e => by cases e; omega)).trans (World.alloc_heap_new _ _)
    have c0 : Wb.cell? ⟨Wc.heap.size, 0, none⟩ = some (.string ek) := by rw [cell_of_obj e0]; rfl
    have c1 : Wb.cell? ⟨Wc.heap.size, 1, none⟩ = some (.int .u64 es_) := by rw [cell_of_obj e0]; rfl
    have c2 : Wb.cell? ⟨Wc.heap.size, 2, none⟩ = some (.bool ed) := by rw [cell_of_obj e0]; rfl
    have c3 : Wb.cell? ⟨Wc.heap.size, 3, none⟩ = some (.string ev) := by rw [cell_of_obj e0]; rfl
    have k0 := hsx.k
    have HSX : Hid (Sx w key (⟨#[]⟩, 0, false, ⟨#[]⟩) false Wb ∧ ∀ e ∈ es.map Prod.snd, Op.bytesLess e.1.toList key.toList = true) := ⟨hsx, hlo⟩
    have HZ : Hid (∀ b, Wb.heap.size ≤ b → T b = 0) := fun b hb => hz b (by have := hg.size; simp at this; omega)
    have hcl : Wc.heap.size < Wb.heap.size := (Array.getElem?_eq_some_iff.1 e0).1
    have hwl : w.heap.size + 4 ≤ Wc.heap.size := by omega
    clear hlo hz hN9 hg ho hoc e0
    cases hlt : Op.bytesLess ek.toList key.toList with
    | true =>
      have HLT : Hid (Op.bytesLess ek.toList key.toList = true) := hlt
      clear hsx
      gi_wp2
      refine ⟨T, ⟨fun e he => ?_, HSX.out.1⟩, Goes.refl _ _ _, HZ.out, KeepsFrom.refl _ _⟩
      rw [List.map_append] at he
      rcases List.mem_append.1 he with he | he
      · exact HSX.out.2 e he
      · simp at he; rw [he]; exact HLT.out
    | false =>
      have HLT : Hid (Op.bytesLess ek.toList key.toList = false) := hlt
      have f0 := hsx.f0
      have f1 := hsx.f1
      have f2 := hsx.f2
      have f3 := hsx.f3
      have fb := hsx.b
      have z2 := hsx.z2
      have z3 := hsx.z3
      clear hsx
      gi_wp2
      refine ⟨T, ⟨rfl, es, _, rfl, HSX.out.2, HLT.out, HSX.out.1.found (ek, es_, ed, ev)⟩, ?_⟩
      exact ((((((KeepsOthers.setCell _ _ _).trans (KeepsOthers.setCell _ _ _)).trans (KeepsOthers.setCell _ _ _)).trans (KeepsOthers.setCell _ _ _)).trans (KeepsOthers.setCell _ _ _))).from _
  case done =>
    rintro D T W' hD ⟨hlo, hsx⟩ hDd
    have HV : Hid (skE l key = none) := by show _ = _; rw [← HEQ.out]; exact skE_none hlo
    have HSX : Hid (Sx w key (⟨#[]⟩, 0, false, ⟨#[]⟩) false W') := hsx
    have f0 := hsx.f0
    have f1 := hsx.f1
    have f2 := hsx.f2
    have f3 := hsx.f3
    have fb := hsx.b
    have r0 := hsx.r0
    have r1 := hsx.r1
    have r2 := hsx.r2
    have r3 := hsx.r3
    have z1 := hsx.z1
    clear hsx hlo
    dsimp only
    dsimp only at f0 f1 f2 f3
    gi_wp2
    gi_region
    gi_wp2
    refine leaves_marks (B0 := w.heap.size) [D] _ (HSX.out.marks (by omega) hDd) (by simp) (fun w' hb hk => ?_)
    obtain ⟨e0, e1, e2, e3, hbw⟩ := HSX.out.answer (by omega) hb hk
    dsimp only at e0 e1 e2 e3
    refine ⟨skV none, ?_, by rw [HV.out], hbw⟩
    clear hk hb
    simp [results, Tryd.results30, go_sem, e0, e1, e2, e3, skV]
  case stop =>
    rintro D c es T W' hD hpre ⟨rfl, es', x, rfl, hlo, hx, hsx⟩ hDd
    have HV : Hid (skE l key = some x.2) := by
      show _ = _
      rw [← HEQ.out]
      refine skE_some (l := es'.map Prod.snd) ?_ hlo hx
      have := map_pre Prod.snd hpre
      rw [List.map_append, List.map_singleton] at this
      exact this
    obtain ⟨xp, xk, xs, xd, xv⟩ := x
    have HSX : Hid (Sx w key (xk, xs, xd, xv) true W') := hsx
    have f0 := hsx.f0
    have f1 := hsx.f1
    have f2 := hsx.f2
    have f3 := hsx.f3
    have fb := hsx.b
    have r0 := hsx.r0
    have r1 := hsx.r1
    have r2 := hsx.r2
    have r3 := hsx.r3
    have z1 := hsx.z1
    clear hsx hlo hx hpre
    dsimp only
    dsimp only at f0 f1 f2 f3
    gi_wp2
    gi_region
    gi_wp2
    refine leaves_marks (B0 := w.heap.size) [D] _ (HSX.out.marks (by omega) hDd) (by simp) (fun w' hb hk => ?_)
    obtain ⟨e0, e1, e2, e3, hbw⟩ := HSX.out.answer (by omega) hb hk
    dsimp only at e0 e1 e2 e3
    refine ⟨skV (some (xk, xs, xd, xv)), ?_, by rw [HV.out], hbw⟩
    clear hk hb
    simp [results, Tryd.results30, go_sem, e0, e1, e2, e3, skV]
theorem seek_any (w : World) (K o r : Nat) (l : List En) (key : ByteArray) (hr : 1 ≤ r) (hk : BlkZ w K o (pushes r st0 l).b (pushes r st0 l).p) (hc : chain ⟨#[]⟩ l) (h0 : ∀ e ∈ l, 0 ≤ e.2.1) (hb : (pushes r st0 l).b.length < 4294967296) (hp : (pushes r st0 l).p.length ≤ 1000000000000) :
    Calls Tryd.prog 30 #[.pointer (some ⟨K, o, none⟩), .string key] w fun e w' => e = .returned (skV (skE l key)) ∧ Below w.heap.size w w' := callsIn_wide.1 (seek_in w K o r l key hr hk hc h0 hb hp)
end Qb
end Go.Proofs.YtnhhalabmmcemaaDoor
