import Derived.Test.YtnhhalabmmcemaaDoorTaT
import Derived.BigQuiet
namespace Go.Proofs.YtnhhalabmmcemaaDoor
namespace Tbl
open Go.RowKit CMath Byt Laws Irw Crw Cod Qb
set_option linter.unusedVariables false
set_option linter.unusedSimpArgs false
set_option maxRecDepth 20000

theorem TbO.cells {t : Nat} {T : Nat → Nat} {w : World} {B : Nat} {ps : List (ByteArray × Nat)} {F : List Nat} {m : Mt} (h : TbO t T w B ps F m) : ∃ ap cp fa fc, w.heap[B]? = some (.cells (tcs (.slice ap ps.length cp) (.slice fa F.length fc) m) 63) ∧ IsK kP w ap ps ∧ IsB w fa F := by
  obtain ⟨pv, fa, fc, hob, hpv, hfi, hft⟩ := h.ob
  obtain ⟨ap, cp, rfl, hk, _⟩ := hpv.form
  exact ⟨ap, cp, fa, fc, hob, hk, hfi⟩
set_option maxHeartbeats 1000000 in
theorem tmeta_any {t : Nat} {T : Nat → Nat} {w : World} {B : Nat} {ps : List (ByteArray × Nat)} {F : List Nat} {m : Mt} (h : TbO t T w B ps F m) :
    Calls Tryd.prog 12 #[.pointer (some ⟨B, 0, none⟩)] w fun e w' => e = .returned (.agg #[.int .u64 0, .int .i64 m.wt, .int .i64 m.by_, .int .i64 (m.n : Int), .string m.lo, .string m.hi]) ∧ Below w.heap.size w w' := by
  obtain ⟨ap, cp, fa, fc, ob, hk, hf⟩ := h.cells
  have k0 : w.cell? ⟨B, 2, none⟩ = some (.int .u64 0) := cell_of ob 2
  have k1 : w.cell? ⟨B, 3, none⟩ = some (.int .i64 m.wt) := cell_of ob 3
  have k2 : w.cell? ⟨B, 4, none⟩ = some (.int .i64 m.by_) := cell_of ob 4
  have k3 : w.cell? ⟨B, 5, none⟩ = some (.int .i64 (m.n : Int)) := cell_of ob 5
  have k4 : w.cell? ⟨B, 6, none⟩ = some (.string m.lo) := cell_of ob 6
  have k5 : w.cell? ⟨B, 7, none⟩ = some (.string m.hi) := cell_of ob 7
  have hlt : B < w.heap.size := (Array.getElem?_eq_some_iff.1 ob).1
  clear ob hk hf h
  go_enter Tryd.func12, Tryd.ntmps12
  go_wp2
  refine bodyPost_ret (v := .agg #[.int .u64 0, .int .i64 m.wt, .int .i64 m.by_, .int .i64 (m.n : Int), .string m.lo, .string m.hi]) (by simp [results, Tryd.results12, go_sem]) rfl ⟨rfl, ?_⟩
  first | exact Below.refl _ _ | exact (Below.refl _ _).alloc (Nat.le_refl _) _
/-- Is a part's greatest key not below a key? -/
def ger (x y : ByteArray) : Bool := !Op.bytesLess x.toList y.toList
set_option maxHeartbeats 1000000 in
theorem partForC_any (w : World) (Bt Bq B i : Nat) (key gk : ByteArray) (Kp : Nat) (ap : Option Addr) (cp fc : Nat) (fa : Option Addr) (F : List Nat) (m : Mt) (ps : List (ByteArray × Nat)) (ob : w.heap[B]? = some (.cells (tcs (.slice ap ps.length cp) (.slice fa F.length fc) m) 63)) (hk : IsK kP w ap ps) (hi : ps[i]? = some (gk, Kp))
    (hBt : w.cell? ⟨Bt, 0, none⟩ = some (.pointer (some ⟨B, 0, none⟩))) (hBq : w.cell? ⟨Bq, 0, none⟩ = some (.string key)) :
    Calls Tryd.prog 52 #[.int .i64 (i : Int), .pointer (some ⟨Bt, 0, none⟩), .pointer (some ⟨Bq, 0, none⟩)] w fun e w' => e = .returned (.bool (ger gk key)) ∧ Below w.heap.size w w' := by
  have hl : i < ps.length := (List.getElem?_eq_some_iff.1 hi).1
  obtain ⟨b, off, rfl, hr⟩ := hk.at_ (by omega)
  have x0 : w.cell? ⟨b, off + i * 2, none⟩ = some (.string gk) := hr.2 i _ hi 0 _ rfl
  have t0 : w.cell? ⟨B, 0, none⟩ = some (.slice (some ⟨b, off, none⟩) ps.length cp) := cell_of ob 0
  have q1 : (i : Int) < (ps.length : Int) := by omega
  clear hr hk ob hi
  go_enter Tryd.func52, Tryd.ntmps52
  go_wp2
  go_quiet (fail)
  go_wp2
  go_ret
  first | exact ⟨rfl, below_drewN (Below.refl _ _) _⟩ | exact ⟨by simp [ger], below_drewN (Below.refl _ _) _⟩
set_option maxHeartbeats 1000000 in
theorem partFor_any (w : World) (B : Nat) (key : ByteArray) (ap : Option Addr) (cp fc : Nat) (fa : Option Addr) (F : List Nat) (m : Mt) (ps : List (ByteArray × Nat)) (ob : w.heap[B]? = some (.cells (tcs (.slice ap ps.length cp) (.slice fa F.length fc) m) 63)) (hk : IsK kP w ap ps) (hpl : ps.length ≤ 1000000) (hrise : ∀ (a b : Nat) (x y : ByteArray × Nat), a ≤ b → ps[a]? = some x → ps[b]? = some y → ger x.1 key = true → ger y.1 key = true) :
    Calls Tryd.prog 28 #[.pointer (some ⟨B, 0, none⟩), .string key] w fun e w' => ∃ j : Nat, e = .returned (.int .i64 (j : Int)) ∧ j ≤ ps.length ∧ (∀ i x, i < j → ps[i]? = some x → ger x.1 key = false) ∧ (∀ i x, j ≤ i → ps[i]? = some x → ger x.1 key = true) ∧ Below w.heap.size w w' := by
  have hmf : ∀ (fn : Fn) (first cap : Array Value) (w : World), (Instr.makeFunc fn first cap).run Tryd.prog w = .ok (.func fn first cap) w := fun _ _ _ _ => rfl
  obtain ⟨W0, hW0⟩ : ∃ W0, (w.alloc (.cells #[.pointer (some ⟨B, 0, none⟩)] 34)).alloc (.cells #[.string key] 9) = W0 := ⟨_, rfl⟩
  have hB0 : Below w.heap.size w W0 := by rw [← hW0]; exact ((Below.refl _ _).alloc (Nat.le_refl _) _).alloc (by simp) _
  have o0 : W0.cell? ⟨w.heap.size, 0, none⟩ = some (.pointer (some ⟨B, 0, none⟩)) ∧ W0.cell? ⟨w.heap.size + 1, 0, none⟩ = some (.string key) ∧ W0.heap.size = w.heap.size + 2 := by
    rw [← hW0]
    refine ⟨?_, ?_, by simp⟩
    · rw [World.cell?_of_block (Below.heap_alloc _ _ _ (by simp)), World.cell?_alloc_at _ _ _ _ rfl]; rfl
    · rw [World.cell?_alloc_at _ _ _ _ (by simp)]; rfl
  have lB : B < w.heap.size := (Array.getElem?_eq_some_iff.1 ob).1
  have t0 : W0.cell? ⟨B, 0, none⟩ = some (.slice ap ps.length cp) := (hB0.cell (p := ⟨B, 0, none⟩) lB).trans (cell_of ob 0)
  have x0 := o0.1
  have p_ : ∃ p : Nat → Bool, ∀ i x, ps[i]? = some x → p i = ger x.1 key := ⟨fun i => match ps[i]? with | some x => ger x.1 key | none => true, fun i x h => by simp [h]⟩
  obtain ⟨p, hp⟩ := p_
  have HS : Hid (Calls Tryd.prog 51 #[.int .i64 (ps.length : Int), .func (.func 52) #[] #[.pointer (some ⟨w.heap.size, 0, none⟩), .pointer (some ⟨w.heap.size + 1, 0, none⟩)]] W0 fun e w' => ∃ m : Nat, e = .returned (.int .i64 (m : Int)) ∧ m ≤ ps.length ∧ (∀ t, t < m → p t = false) ∧ (∀ t, m ≤ t → t < ps.length → p t = true) ∧ Below W0.heap.size W0 w') := by
    apply Qb.hid
    refine search_any 52 _ ps.length p W0 (enters_of Tryd.func52 (by kernel_rfl) rfl) (by omega) ?_ ?_
    · intro W i hW hi
      obtain ⟨x, hx⟩ : ∃ x, ps[i]? = some x := ⟨_, List.getElem?_eq_getElem hi⟩
      rw [hp i x hx]
      have hb := bl_step hB0 hW
      exact partForC_any W w.heap.size (w.heap.size + 1) B i key x.1 x.2 ap cp fc fa F m ps ((hb.block B lB).trans ob) (hk.below hb) hx ((hW.cell (p := ⟨w.heap.size, 0, none⟩) (by show w.heap.size < _; omega)).trans o0.1) ((hW.cell (p := ⟨w.heap.size + 1, 0, none⟩) (by show w.heap.size + 1 < _; omega)).trans o0.2.1)
    · intro a b hab hb ha
      obtain ⟨y, hy⟩ : ∃ y, ps[b]? = some y := ⟨_, List.getElem?_eq_getElem hb⟩
      obtain ⟨x, hx⟩ : ∃ x, ps[a]? = some x := ⟨_, List.getElem?_eq_getElem (by omega)⟩
      rw [hp b y hy]
      rw [hp a x hx] at ha
      exact hrise a b x y hab hx hy ha
  have HB0 := Qb.hid hB0
  have HP := Qb.hid hp
  clear ob hk hrise hp hB0 o0
  go_enter Tryd.func28, Tryd.ntmps28
  go_wp2_with (go_at_call 51; go_loud (refine HS.out.mono ?_; rintro e w2 ⟨j, rfl, h1, h2, h3, h4⟩; have HR := Qb.hid (And.intro h1 (And.intro h2 (And.intro h3 h4))); clear h1 h2 h3 h4))
  go_ret
  refine ⟨j, rfl, HR.out.1, fun i x hi hx => ?_, fun i x hi hx => ?_, bl_step HB0.out HR.out.2.2.2⟩
  · rw [← HP.out i x hx]; exact HR.out.2.1 i hi
  · rw [← HP.out i x hx]; exact HR.out.2.2.1 i hi (List.getElem?_eq_some_iff.1 hx).1

end Tbl
end Go.Proofs.YtnhhalabmmcemaaDoor
namespace Go.Proofs.YtnhhalabmmcemaaDoor
namespace Tbl
open Go.RowKit CMath Byt Laws Irw Crw Cod Qb
set_option linter.unusedVariables false
set_option linter.unusedSimpArgs false
set_option maxRecDepth 20000

/-- What Get finds in a part. -/
def gtC (cs : List En) (key : ByteArray) : Option En := match skE cs key with | some e => if e.1.toList = key.toList then some e else none | none => none
def gtR (css : List (List En)) (F : List Nat) (j : Nat) (key : ByteArray) : Option En := match css[j]? with | none => none | some cs => if BMath.may F (strB key) = true then gtC cs key else none
theorem PsAt.at_ {R : Nat} {T : Nat → Nat} {w : World} : ∀ (ps : List (ByteArray × Nat)) (css : List (List En)) (j : Nat) (p : ByteArray × Nat), PsAt R T w ps css → ps[j]? = some p → ∃ cs r, css[j]? = some cs ∧ p.1 = lastE ⟨#[]⟩ cs ∧ 1 ≤ r ∧ pushes r st0 cs = pushes R st0 cs ∧ BlkAt (· ≠ 0) T w p.2 3 (pushes r st0 cs).b (pushes r st0 cs).p
  | [], [], j, p, _, h => by simp at h
  | q :: ps, c :: css, 0, p, h, hp => by
    simp at hp
    subst hp
    obtain ⟨r, h1, h2, h3⟩ := h.2.1
    exact ⟨c, r, rfl, h.1, h1, h2, h3⟩
  | q :: ps, c :: css, j + 1, p, h, hp => by
    obtain ⟨cs, r, h1, h2⟩ := PsAt.at_ ps css j p h.2.2 (by simpa using hp)
    exact ⟨cs, r, by simpa using h1, h2⟩
  | [], _ :: _, _, _, h, _ => h.elim
  | _ :: _, [], _, _, h, _ => h.elim
def Z4 : Array Value := #[.string ⟨#[]⟩, .int .u64 0, .bool false, .string ⟨#[]⟩]
def GtIs (ps : List (ByteArray × Nat)) (css : List (List En)) (F : List Nat) (key : ByteArray) (w : World) (e : Ending) (w' : World) : Prop :=
  ∃ j, j ≤ ps.length ∧ (∀ i x, i < j → ps[i]? = some x → ger x.1 key = false) ∧ (∀ i x, j ≤ i → ps[i]? = some x → ger x.1 key = true) ∧ e = .returned (skV (gtR css F j key)) ∧ Below w.heap.size w w'
set_option maxHeartbeats 2000000 in
theorem get_any (T : Nat → Nat) (w : World) (B : Nat) (key : ByteArray) (F : List Nat) (m : Mt) (ps : List (ByteArray × Nat)) (R : Nat) (css : List (List En)) (h : TbO 20 T w B ps F m) (hps : PsAt R T w ps css) (hch : chain ⟨#[]⟩ css.flatten) (hnn : ∀ e ∈ css.flatten, 0 ≤ e.2.1) (hlen : css.flatten.length ≤ 100000) (hcl : css.length ≤ 100000) (hF : F.length ≤ 1000000000) (hkey : key.size ≤ 1000000) (ht : Tab w)
    (hrise : ∀ (a b : Nat) (x y : ByteArray × Nat), a ≤ b → ps[a]? = some x → ps[b]? = some y → ger x.1 key = true → ger y.1 key = true) :
    Calls Tryd.prog 15 #[.pointer (some ⟨B, 0, none⟩), .string key] w fun e w' => GtIs ps css F key w e w' := by
  obtain ⟨ap, cp, fa, fc, ob, hk, hf⟩ := h.cells
  have hpl := PsAt.len _ _ hps
  have lB : B < w.heap.size := (Array.getElem?_eq_some_iff.1 ob).1
  obtain ⟨W0, hW0⟩ : ∃ W0, w.alloc (.cells #[.string ⟨#[]⟩, .int .u64 0, .bool false, .string ⟨#[]⟩] 43) = W0 := ⟨_, rfl⟩
  have hB0 : Below w.heap.size w W0 := by rw [← hW0]; exact (Below.refl _ _).alloc (Nat.le_refl _) _
  have o0 : W0.heap[w.heap.size]? = some (.cells #[.string ⟨#[]⟩, .int .u64 0, .bool false, .string ⟨#[]⟩] 43) := by rw [← hW0]; exact World.alloc_heap_new _ _
  have HPF : Hid (Calls Tryd.prog 28 #[.pointer (some ⟨B, 0, none⟩), .string key] W0 fun e w' => ∃ j : Nat, e = .returned (.int .i64 (j : Int)) ∧ j ≤ ps.length ∧ (∀ i x, i < j → ps[i]? = some x → ger x.1 key = false) ∧ (∀ i x, j ≤ i → ps[i]? = some x → ger x.1 key = true) ∧ Below W0.heap.size W0 w') := Qb.hid (partFor_any W0 B key ap cp fc fa F m ps ((hB0.block B lB).trans ob) (hk.below hB0) (by omega) hrise)
  have HMY : Hid (∀ W, Below w.heap.size w W → Calls Tryd.prog 29 #[.slice fa F.length fc, .string key] W fun e w' => e = .returned (.bool (BMath.may F (strB key))) ∧ Below W.heap.size W w') := Qb.hid (fun W hW => Blo.may_any fa fc F.length F key W (hf.below hW) (ht.below hW ht.lt) (by omega) (by omega) rfl)
  have HOB : Hid (∀ W, Below w.heap.size w W → W.cell? ⟨B, 0, none⟩ = some (.slice ap ps.length cp) ∧ W.cell? ⟨B, 1, none⟩ = some (.slice fa F.length fc)) := Qb.hid (fun W hW => ⟨(hW.cell (p := ⟨B, 0, none⟩) lB).trans (cell_of ob 0), (hW.cell (p := ⟨B, 1, none⟩) lB).trans (cell_of ob 1)⟩)
  have HSK : Hid (∀ (j : Nat) (cs : List En) (r : Nat) (p : ByteArray × Nat), ps[j]? = some p → css[j]? = some cs → 1 ≤ r → BlkAt (· ≠ 0) T w p.2 3 (pushes r st0 cs).b (pushes r st0 cs).p → ∀ W, Below w.heap.size w W → Calls Tryd.prog 30 #[.pointer (some ⟨p.2, 3, none⟩), .string key] W fun e w' => e = .returned (skV (skE cs key)) ∧ Below W.heap.size W w') := by
    apply Qb.hid
    intro j cs r p hp hcs hr hbk W hW
    obtain ⟨m9, hfl⟩ := flat_pre hcs
    have hch' := hch
    rw [hfl] at hch'
    have hc0 : chain ⟨#[]⟩ cs := chain_nil ((chain_app _ _ _).1 ((chain_app _ _ _).1 hch').2).1
    have hcm : cs ∈ css := List.mem_of_getElem? hcs
    have hnn9 : ∀ e ∈ cs, 0 ≤ e.2.1 := fun e he => hnn e (List.mem_flatten.2 ⟨cs, hcm, he⟩)
    have hl9 : cs.length ≤ 100000 := by
      have h1 := hlen
      rw [hfl, List.length_append, List.length_append] at h1
      omega
    have a1 := pushes_len r cs (fun e he => ⟨chain_ok hc0 e he, hnn9 e he⟩)
    have a2 := pushes_plen r cs st0
    have z1 : st0.p.length = 0 := rfl
    exact seek_any W p.2 3 r cs key hr (hbk.z.below hW) hc0 hnn9 (by omega) (by omega)
  have HPS := Qb.hid (And.intro hps (And.intro hk hpl))
  have HB0 := Qb.hid (And.intro hB0 o0)
  have HZ : Hid (∀ W, Below W0.heap.size W0 W → W.cell? ⟨w.heap.size, 0, none⟩ = some (.string ⟨#[]⟩) ∧ W.cell? ⟨w.heap.size, 1, none⟩ = some (.int .u64 0) ∧ W.cell? ⟨w.heap.size, 2, none⟩ = some (.bool false) ∧ W.cell? ⟨w.heap.size, 3, none⟩ = some (.string ⟨#[]⟩) ∧ W.frozen? ⟨w.heap.size, 0, none⟩ = false ∧ W.frozen? ⟨w.heap.size, 1, none⟩ = false ∧ W.frozen? ⟨w.heap.size, 2, none⟩ = false ∧ W.frozen? ⟨w.heap.size, 3, none⟩ = false) := by
    apply Qb.hid
    intro W hW
    have e := (hW.block w.heap.size (Array.getElem?_eq_some_iff.1 o0).1).trans o0
    exact ⟨cell_of e 0, cell_of e 1, cell_of e 2, cell_of e 3, froz_of e 0, froz_of e 1, froz_of e 2, froz_of e 3⟩
  have HNB : Hid (∀ (W : World) (v0 v1 v2 v3 : Value), Below W0.heap.size W0 W → Below w.heap.size w ((((W.setCell ⟨w.heap.size, 0, none⟩ v0).setCell ⟨w.heap.size, 1, none⟩ v1).setCell ⟨w.heap.size, 2, none⟩ v2).setCell ⟨w.heap.size, 3, none⟩ v3)) := Qb.hid (fun W v0 v1 v2 v3 hW => ((((bl_step hB0 hW).setCell (p := ⟨w.heap.size, 0, none⟩) (Nat.le_refl _) _).setCell (p := ⟨w.heap.size, 1, none⟩) (Nat.le_refl _) _).setCell (p := ⟨w.heap.size, 2, none⟩) (Nat.le_refl _) _).setCell (p := ⟨w.heap.size, 3, none⟩) (Nat.le_refl _) _)
  have lW : w.heap.size < W0.heap.size := (Array.getElem?_eq_some_iff.1 o0).1
  clear h hps hch hnn hF ht hrise ob hk hf hB0 o0 hlen hcl hkey
  go_enter Tryd.func15, Tryd.ntmps15
  go_wp2_with (go_at_call 28; fail)
  refine HPF.out.mono ?_
  rintro e w1 ⟨j, rfl, hj, hlo, hup, hb1⟩
  dsimp only
  have HJ := Qb.hid (And.intro hj (And.intro hlo hup))
  have HB1 := Qb.hid hb1
  have HW1 := Qb.hid (bl_step HB0.out.1 hb1)
  obtain ⟨t0, t1⟩ := HOB.out w1 HW1.out
  clear hlo hup hb1 HPF
  by_cases hje : j = ps.length
  · have hnone : gtR css F j key = none := by
      unfold gtR
      rw [List.getElem?_eq_none (by have := HPS.out.2.2; omega)]
    have HN := Qb.hid hnone
    have hje' : (j : Int) = (ps.length : Int) := by omega
    obtain ⟨c0, c1, c2, c3, f0, f1, f2, f3⟩ := HZ.out w1 HB1.out
    rw [hje]
    clear hje'
    go_wp2
    refine bodyPost_ret (v := skV none) ?_ rfl ⟨j, HJ.out.1, HJ.out.2.1, HJ.out.2.2, by rw [HN.out], HNB.out _ _ _ _ _ HB1.out⟩
    simp [skV, results, Tryd.results15, go_sem, c0, c1, c2, c3, f0, f1, f2, f3]
  · obtain ⟨⟨gk, Kp⟩, hp⟩ : ∃ p, ps[j]? = some p := ⟨_, List.getElem?_eq_getElem (by omega)⟩
    obtain ⟨cs, r, hcs, _, hr1, _, hbk⟩ := PsAt.at_ _ _ _ _ HPS.out.1 hp
    have HSE := Qb.hid (HSK.out j cs r (gk, Kp) hp hcs hr1 hbk)
    have hgt : gtR css F j key = if BMath.may F (strB key) = true then gtC cs key else none := by unfold gtR; rw [hcs]
    obtain ⟨b, off, rfl, hr⟩ := HPS.out.2.1.at_ (by omega)
    have hlb := hr.1
    have y1 : w.cell? ⟨b, off + j * 2 + 1, none⟩ = some (.pointer (some ⟨Kp, 3, none⟩)) := hr.2 j _ hp 1 _ rfl
    have hje' : ¬ (j : Int) = (ps.length : Int) := by omega
    have q1 : (j : Int) < (ps.length : Int) := by omega
    clear hr hbk hr1 hcs hp hje
    cases hm : BMath.may F (strB key) with
    | false =>
      rw [hm] at HMY hgt
      have HN := Qb.hid hgt
      clear hgt hm
      go_wp2_with (go_at_call 29; go_loud (refine (HMY.out _ HW1.out).mono ?_; rintro e w2 ⟨rfl, hb2⟩; have HB2 := Qb.hid (bl_step HB1.out hb2); obtain ⟨c0, c1, c2, c3, f0, f1, f2, f3⟩ := HZ.out w2 HB2.out; clear hb2))
      refine bodyPost_ret (v := skV none) ?_ rfl ⟨j, HJ.out.1, HJ.out.2.1, HJ.out.2.2, by rw [HN.out]; rfl, HNB.out _ _ _ _ _ HB2.out⟩
      simp [skV, results, Tryd.results15, go_sem, c0, c1, c2, c3, f0, f1, f2, f3]
    | true =>
      rw [hm] at HMY hgt
      have hgt2 : gtR css F j key = gtC cs key := by rw [hgt]; rfl
      have HN := Qb.hid hgt2
      clear hgt hgt2 hm
      cases hk : skE cs key with
      | none =>
        have HG : Hid (gtC cs key = none) := by unfold gtC; rw [hk]; exact Qb.hid rfl
        have HS0 : Hid (∀ W, Below w.heap.size w W → Calls Tryd.prog 30 #[.pointer (some ⟨Kp, 3, none⟩), .string key] W fun e w' => e = .returned (.tuple #[.agg #[.string ⟨#[]⟩, .int .u64 0, .bool false, .string ⟨#[]⟩], .bool false]) ∧ Below W.heap.size W w') := by
          apply Qb.hid
          intro W hW
          have h := HSE.out W hW
          rw [hk] at h
          exact h
        clear HSE hk
        go_wp2_with (first
          | (go_at_call 29; go_loud (refine (HMY.out _ HW1.out).mono ?_; rintro e w2 ⟨rfl, hb2⟩; have HB2 := Qb.hid (bl_step HB1.out hb2); have HW2 := Qb.hid (bl_step HW1.out hb2); have z1 := (HW2.out.cell (p := ⟨b, off + j * 2 + 1, none⟩) hlb).trans y1; obtain ⟨s0, s1⟩ := HOB.out w2 HW2.out; clear hb2 t0 t1 y1))
          | (go_at_call 30; go_loud (refine (HS0.out _ HW2.out).mono ?_; rintro e w3 ⟨rfl, hb3⟩; have HB3 := Qb.hid (bl_step HB2.out hb3); obtain ⟨c0, c1, c2, c3, f0, f1, f2, f3⟩ := HZ.out w3 HB3.out; have lw3 : w.heap.size < w3.heap.size := Nat.lt_of_lt_of_le lW HB3.out.size; clear hb3 z1 s0 s1)))
        refine bodyPost_ret (v := skV none) ?_ rfl ⟨j, HJ.out.1, HJ.out.2.1, HJ.out.2.2, by rw [HN.out]; rw [HG.out], (HNB.out w3 _ _ _ _ HB3.out).alloc (by simp; omega) _⟩
        simp [skV, results, Tryd.results15, go_sem, c0, c1, c2, c3, f0, f1, f2, f3, lw3, Nat.ne_of_lt lw3]
      | some e =>
        obtain ⟨ek, es_, ed, ev⟩ := e
        have HS0 : Hid (∀ W, Below w.heap.size w W → Calls Tryd.prog 30 #[.pointer (some ⟨Kp, 3, none⟩), .string key] W fun e w' => e = .returned (.tuple #[.agg #[.string ek, .int .u64 es_, .bool ed, .string ev], .bool true]) ∧ Below W.heap.size W w') := by
          apply Qb.hid
          intro W hW
          have h := HSE.out W hW
          rw [hk] at h
          exact h
        by_cases hek : ek.toList = key.toList
        · have HG : Hid (gtC cs key = some (ek, es_, ed, ev)) := by unfold gtC; rw [hk]; exact Qb.hid (if_pos hek)
          clear HSE hk
          go_wp2_with (first
            | (go_at_call 29; go_loud (refine (HMY.out _ HW1.out).mono ?_; rintro e w2 ⟨rfl, hb2⟩; have HB2 := Qb.hid (bl_step HB1.out hb2); have HW2 := Qb.hid (bl_step HW1.out hb2); have z1 := (HW2.out.cell (p := ⟨b, off + j * 2 + 1, none⟩) hlb).trans y1; obtain ⟨s0, s1⟩ := HOB.out w2 HW2.out; clear hb2 t0 t1 y1))
            | (go_at_call 30; go_loud (refine (HS0.out _ HW2.out).mono ?_; rintro e w3 ⟨rfl, hb3⟩; have HB3 := Qb.hid (bl_step HB2.out hb3); obtain ⟨c0, c1, c2, c3, f0, f1, f2, f3⟩ := HZ.out w3 HB3.out; have lw3 : w.heap.size < w3.heap.size := Nat.lt_of_lt_of_le lW HB3.out.size; clear hb3 z1 s0 s1)))
          refine bodyPost_ret (v := skV (some (ek, es_, ed, ev))) ?_ rfl ⟨j, HJ.out.1, HJ.out.2.1, HJ.out.2.2, by rw [HN.out]; rw [HG.out], (HNB.out w3 _ _ _ _ HB3.out).alloc (by simp; omega) _⟩
          simp [skV, results, Tryd.results15, go_sem, c0, c1, c2, c3, f0, f1, f2, f3, lw3, Nat.ne_of_lt lw3]
        · have HG : Hid (gtC cs key = none) := by unfold gtC; rw [hk]; exact Qb.hid (if_neg hek)
          have hek2 : (ek.toList == key.toList) = false := by simpa using hek
          have hek3 : (ek.toList != key.toList) = true := by simpa using hek
          have hek4 : ¬ ek = key := fun e => hek (by rw [e])
          clear HSE hk
          go_wp2_with (first
            | (go_at_call 29; go_loud (refine (HMY.out _ HW1.out).mono ?_; rintro e w2 ⟨rfl, hb2⟩; have HB2 := Qb.hid (bl_step HB1.out hb2); have HW2 := Qb.hid (bl_step HW1.out hb2); have z1 := (HW2.out.cell (p := ⟨b, off + j * 2 + 1, none⟩) hlb).trans y1; obtain ⟨s0, s1⟩ := HOB.out w2 HW2.out; clear hb2 t0 t1 y1))
            | (go_at_call 30; go_loud (refine (HS0.out _ HW2.out).mono ?_; rintro e w3 ⟨rfl, hb3⟩; have HB3 := Qb.hid (bl_step HB2.out hb3); obtain ⟨c0, c1, c2, c3, f0, f1, f2, f3⟩ := HZ.out w3 HB3.out; have lw3 : w.heap.size < w3.heap.size := Nat.lt_of_lt_of_le lW HB3.out.size; clear hb3 z1 s0 s1)))
          refine bodyPost_ret (v := skV none) ?_ rfl ⟨j, HJ.out.1, HJ.out.2.1, HJ.out.2.2, by rw [HN.out]; rw [HG.out], (HNB.out w3 _ _ _ _ HB3.out).alloc (by simp; omega) _⟩
          simp [skV, results, Tryd.results15, go_sem, c0, c1, c2, c3, f0, f1, f2, f3, lw3, Nat.ne_of_lt lw3]

end Tbl
end Go.Proofs.YtnhhalabmmcemaaDoor
