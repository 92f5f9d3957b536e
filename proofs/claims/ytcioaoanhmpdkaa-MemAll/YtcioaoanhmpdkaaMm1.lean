import Derived.Test.YtcioaoanhmpdkaaSkS
import Derived.Test.YtcioaoanhmpdkaaBat
import Derived.Test.YtcioaoanhmpdkaaEnts
import Derived.Lib.MinMax
import Derived.Deep.RegionWith
import Derived.Deep.RegionHeld3
namespace Go.Proofs.Ytcioaoanhmpdkaa
namespace Mem
open Go.RowKit Laws Irw Erw KMath Skm Byt Sk
set_option linter.unusedVariables false
set_option maxRecDepth 100000
set_option linter.unusedSimpArgs false

/-- what an entry weighs -/
def wN (e : En) : Nat := 2 * e.1.size + (Chk.val e.2.2.1 e.2.2.2).size + 448
def wS (ns : List Nd) : Nat := (ns.map fun n => wN n.e).sum
def lM : List Nd → Int
  | [] => 0
  | n :: r => max n.e.2.1 (lM r)
/-- an entry that a memtable may have -/
def okE (e : En) : Prop := 0 < e.1.size ∧ e.1.size ≤ 64 ∧ (Chk.val e.2.2.1 e.2.2.2).size ≤ 512 ∧ 0 ≤ e.2.1 ∧ e.2.1 ≤ 18446744073709551615
theorem wS_insert (pre post : List Nd) (n : Nd) : wS (pre ++ n :: post) = wS (pre ++ post) + wN n.e := by
  simp only [wS, List.map_append, List.map_cons, List.sum_append, List.sum_cons]; omega
theorem lM_append (a b : List Nd) : lM (a ++ b) = max (lM a) (lM b) := by
  induction a with
  | nil =>
    have : 0 ≤ lM b := by
      induction b with
      | nil => simp [lM]
      | cons n b ih => simp only [lM]; omega
    simp only [List.nil_append, lM]; omega
  | cons n a ih => simp only [List.cons_append, lM, ih]; omega
theorem lM_pos (a : List Nd) : 0 ≤ lM a := by
  induction a with
  | nil => simp [lM]
  | cons n b ih => simp only [lM]; omega
theorem lM_insert (pre post : List Nd) (n : Nd) : lM (pre ++ n :: post) = max (lM (pre ++ post)) n.e.2.1 := by
  rw [lM_append, lM_append]
  simp only [lM]
  omega
theorem wS_le {ns : List Nd} (h : ∀ n ∈ ns, okE n.e) : wS ns ≤ 1088 * ns.length := by
  induction ns with
  | nil => simp [wS]
  | cons n r ih =>
    have h1 := h n (by simp)
    have h2 := ih fun m hm => h m (by simp [hm])
    have e : wS (n :: r) = wN n.e + wS r := rfl
    have e2 : wN n.e ≤ 1088 := by
      unfold okE at h1
      unfold wN
      omega
    rw [e, List.length_cons]
    omega
/-- A memtable as it lies: its list has tags t, t + 1; itself t + 2. -/
structure Mt (t : Nat) (T : Nat → Nat) (w : World) (M L : Nat) (ds : List Nat) (ns : List Nd) (fz : Bool) : Prop where
  sl : Sl t T w L ds ns
  tag : T M = t + 2
  lt : M < w.heap.size
  c0 : w.cell? ⟨M, 0, none⟩ = some (.pointer (some ⟨L, 0, none⟩))
  c1 : w.cell? ⟨M, 1, none⟩ = some (.int .i64 (wS ns : Int))
  c2 : w.cell? ⟨M, 2, none⟩ = some (.int .u64 (lM ns))
  c3 : w.cell? ⟨M, 3, none⟩ = some (.bool fz)
  fr : ∀ j, w.frozen? ⟨M, j, none⟩ = false
  ok : ∀ n ∈ ns, okE n.e
def uM (t x : Nat) : Prop := x = t ∨ x = t + 2
theorem Mt.goes {t : Nat} {u : Nat → Prop} {T T' : Nat → Nat} {w w' : World} {M L : Nat} {ds : List Nat} {ns : List Nd} {fz : Bool} (h : Mt t T w M L ds ns fz) (hg : Goes u T w T' w') (h1 : ¬ u t) (h2 : ¬ u (t + 1)) (h3 : ¬ u (t + 2)) : Mt t T' w' M L ds ns fz := by
  have e1 : ¬ u (T M) := by rw [h.tag]; exact h3
  have hb := hg.block M h.lt e1
  exact ⟨h.sl.goes hg h1 h2, (hg.tag M h.lt e1).trans h.tag, Nat.lt_of_lt_of_le h.lt hg.size, (World.cell?_of_block (a := ⟨M, 0, none⟩) hb).trans h.c0, (World.cell?_of_block (a := ⟨M, 1, none⟩) hb).trans h.c1, (World.cell?_of_block (a := ⟨M, 2, none⟩) hb).trans h.c2, (World.cell?_of_block (a := ⟨M, 3, none⟩) hb).trans h.c3, fun j => (World.frozen?_of_block (a := ⟨M, j, none⟩) hb).trans (h.fr j), h.ok⟩
theorem Mt.below {t : Nat} {T : Nat → Nat} {w w' : World} {M L : Nat} {ds : List Nat} {ns : List Nd} {fz : Bool} (h : Mt t T w M L ds ns fz) (hb : Below w.heap.size w w') : Mt t T w' M L ds ns fz := h.goes (Goes.below (t := fun _ => False) hb) (fun z => z) (fun z => z) (fun z => z)

theorem weight_any (e : En) (w : World) (h : okE e) :
    Calls Try.prog 87 #[.agg #[.string e.1, .int .u64 e.2.1, .bool e.2.2.1, .string e.2.2.2]] w fun r w' => r = .returned (.int .i64 (wN e : Int)) ∧ Below w.heap.size w w' := by
  have := Wei.weight_any e.1 e.2.1 e.2.2.1 e.2.2.2 w
  have hw : Wei.wt e.1 e.2.2.1 e.2.2.2 = (wN e : Int) := by
    obtain ⟨_, h1, h2, _⟩ := h
    unfold Wei.wt wN wrap64
    omega
  rw [hw] at this
  exact this

theorem new_mem (t : Nat) (T : Nat → Nat) (w : World) (a : Option Addr) (n c : Nat) (ds : List Nat) (hi : IsB w a ds) (hn : n = ds.length) (hnil : a = none → c = 0) (h47 : ds.length ≤ 140737488355328) (hz : ∀ b, w.heap.size ≤ b → T b = 0) :
    Calls Try.prog 10 #[.slice a n c] w fun e w' => ∃ M L T', e = .returned (.pointer (some ⟨M, 0, none⟩)) ∧ Mt t T' w' M L ds [] false ∧ Goes (fun _ => False) T w T' w' := by
  have HN : Hid (Calls Try.prog 42 #[.slice a n c] w fun e w' => ∃ L T', e = .returned (.pointer (some ⟨L, 0, none⟩)) ∧ w.heap.size ≤ L ∧ Sl t T' w' L ds [] ∧ Goes (fun _ => False) T w T' w') := new_any t T w a n c ds hi hn hnil h47
  clear hi hn hnil h47
  go_enter Try.func10, Try.ntmps10
  go_wp2_with fail
  refine HN.out.mono ?_
  rintro e w1 ⟨L, T1, rfl, hL, hsl, hgo⟩
  have HS : Hid (Sl t T1 w1 L ds [] ∧ Goes (fun _ => False) T w T1 w1 ∧ ∀ b, w.heap.size ≤ b → T b = 0) := ⟨hsl, hgo, hz⟩
  clear hsl hgo hz
  go_wp2
  go_ret
  obtain ⟨hsl, hgo, hz⟩ := HS.out
  generalize ho : (Obj.cells #[.pointer (some ⟨L, 0, none⟩), .int .i64 0, .int .u64 0, .bool false] 102) = o
  have g1 : (w1.alloc o).heap[w1.heap.size]? = some o := World.alloc_heap_new w1 o
  have hb2 : Below w1.heap.size w1 (w1.alloc o) := (Below.refl _ _).alloc (Nat.le_refl _) _
  have hs2 : (w1.alloc o).heap.size = w1.heap.size + 1 := by simp
  generalize w1.alloc o = W at *
  subst ho
  have hgu : Goes (fun _ => False) T1 w1 (upd T1 w1.heap.size (t + 2)) W := ⟨hb2.os, hb2.tape, hb2.output, hb2.size, fun b hb _ => hb2.block b hb, fun b hb _ => upd_other _ _ (by omega), fun b hb h0 => by rw [upd_other _ _ (by omega)]; exact h0⟩
  refine ⟨w1.heap.size, L, upd T1 w1.heap.size (t + 2), rfl, ⟨hsl.goes hgu (fun z => z) (fun z => z), upd_same _ _ _, by omega, by rw [cell_of_obj g1]; rfl, by rw [cell_of_obj g1]; rfl, by rw [cell_of_obj g1]; rfl, by rw [cell_of_obj g1]; rfl, fun j => froz_of_obj g1, by simp⟩, hgo.trans hgu⟩

def TakeAns (t : Nat) (T : Nat → Nat) (w : World) (M L : Nat) (ds : List Nat) (ns : List Nd) (fz : Bool) (e : En) (w' : World) : Prop :=
  ∃ T' ns' ok, Mt t T' w' M L ds ns' fz ∧ Goes (uM t) T w T' w' ∧ PutIs ds ns e ns' ok

theorem take_done {t : Nat} {T T2 : Nat → Nat} {w w2 w3 : World} {M L : Nat} {ds : List Nat} {ns ns2 : List Nd} {fz : Bool} {e : En} (h : Mt t T w M L ds ns fz) (he : okE e) (hsl : Sl t T2 w2 L ds ns2) (hgo : Goes (· = t) T w T2 w2) (hp : PutIs ds ns e ns2 true) (hb : Below w2.heap.size w2 w3) :
    w3.cell? ⟨M, 1, none⟩ = some (.int .i64 (wS ns : Int)) ∧ w3.cell? ⟨M, 2, none⟩ = some (.int .u64 (lM ns)) ∧ (∀ j, w3.frozen? ⟨M, j, none⟩ = false) ∧
    Hid (TakeAns t T w M L ds ns fz e ((w3.setCell ⟨M, 1, none⟩ (.int .i64 ((wS ns : Int) + (wN e : Int)))).setCell ⟨M, 2, none⟩ (.int .u64 (max (lM ns) e.2.1)))) := by
  have hM : ¬ T M = t := by rw [h.tag]; omega
  have hgo3 : Goes (· = t) T w T2 w3 := hgo.trans (Goes.below hb)
  have hbk := hgo3.block M h.lt hM
  have ht3 := (hgo3.tag M h.lt hM).trans h.tag
  have d0 := (World.cell?_of_block (a := ⟨M, 0, none⟩) hbk).trans h.c0
  have d1 := (World.cell?_of_block (a := ⟨M, 1, none⟩) hbk).trans h.c1
  have d2 := (World.cell?_of_block (a := ⟨M, 2, none⟩) hbk).trans h.c2
  have d3 := (World.cell?_of_block (a := ⟨M, 3, none⟩) hbk).trans h.c3
  have df : ∀ j, w3.frozen? ⟨M, j, none⟩ = false := fun j => (World.frozen?_of_block (a := ⟨M, j, none⟩) hbk).trans (h.fr j)
  refine ⟨d1, d2, df, ?_⟩
  rcases hp with ⟨h0, _⟩ | ⟨_, hne, pre, post, b, hcut, hcut2⟩
  · cases h0
  have ne : ∀ (i j : Nat), i ≠ j → (⟨M, i, none⟩ : Addr) ≠ ⟨M, j, none⟩ := fun i j hij q => hij (congrArg Addr.off q)
  have g2 : Goes (· = t + 2) T2 w3 T2 ((w3.setCell ⟨M, 1, none⟩ (.int .i64 ((wS ns : Int) + (wN e : Int)))).setCell ⟨M, 2, none⟩ (.int .u64 (max (lM ns) e.2.1))) := (Goes.setCell (t := (· = t + 2)) ht3).trans (Goes.setCell (t := (· = t + 2)) ht3)
  refine ⟨T2, ns2, true, ⟨(hsl.below hb).goes g2 (by omega) (by omega), ht3, ?_, ?_, ?_, ?_, ?_, fun j => ?_, fun n hn => ?_⟩, (hgo3.mono fun x hx => .inl hx).trans (g2.mono fun x hx => .inr hx), .inr ⟨rfl, hne, pre, post, b, hcut, hcut2⟩⟩
  · have := hgo3.size; have := h.lt; simp; omega
  · rw [World.cell?_setCell_other _ ⟨M, 2, none⟩ ⟨M, 0, none⟩ _ (ne _ _ (by omega)), World.cell?_setCell_other _ ⟨M, 1, none⟩ ⟨M, 0, none⟩ _ (ne _ _ (by omega))]; exact d0
  · rw [World.cell?_setCell_other _ ⟨M, 2, none⟩ ⟨M, 1, none⟩ _ (ne _ _ (by omega)), World.cell?_setCell_same _ _ _ d1, hcut2, wS_insert, ← hcut]
    simp
  · rw [World.cell?_setCell_same _ _ _ ((World.cell?_setCell_other _ ⟨M, 1, none⟩ ⟨M, 2, none⟩ _ (ne _ _ (by omega))).trans d2), hcut2, lM_insert, ← hcut]
  · rw [World.cell?_setCell_other _ ⟨M, 2, none⟩ ⟨M, 3, none⟩ _ (ne _ _ (by omega)), World.cell?_setCell_other _ ⟨M, 1, none⟩ ⟨M, 3, none⟩ _ (ne _ _ (by omega))]; exact d3
  · rw [World.frozen?_setCell, World.frozen?_setCell]; exact df j
  · rw [hcut2] at hn
    rcases List.mem_append.1 hn with hn | hn
    · exact h.ok n (by rw [hcut]; simp [hn])
    · rcases List.mem_cons.1 hn with rfl | hn
      · exact he
      · exact h.ok n (by rw [hcut]; simp [hn])

theorem TakeAns.below {t : Nat} {T : Nat → Nat} {w : World} {M L : Nat} {ds : List Nat} {ns : List Nd} {fz : Bool} {e : En} {w' w'' : World} (h : TakeAns t T w M L ds ns fz e w') (hb : Below w'.heap.size w' w'') : TakeAns t T w M L ds ns fz e w'' := by
  obtain ⟨T', ns', ok, h1, h2, h3⟩ := h
  exact ⟨T', ns', ok, h1.below hb, h2.trans (Goes.below hb), h3⟩
theorem take_not {t : Nat} {T T2 : Nat → Nat} {w w2 : World} {M L : Nat} {ds : List Nat} {ns ns2 : List Nd} {fz : Bool} {e : En} (h : Mt t T w M L ds ns fz) (hsl : Sl t T2 w2 L ds ns2) (hgo : Goes (· = t) T w T2 w2) (hp : PutIs ds ns e ns2 false) : TakeAns t T w M L ds ns fz e w2 := by
  have hp2 := hp
  rcases hp2 with ⟨_, rfl, _⟩ | ⟨h0, _⟩
  · have hM : ¬ T M = t := by rw [h.tag]; omega
    have hbk := hgo.block M h.lt hM
    exact ⟨T2, _, false, ⟨hsl, (hgo.tag M h.lt hM).trans h.tag, Nat.lt_of_lt_of_le h.lt hgo.size, (World.cell?_of_block (a := ⟨M, 0, none⟩) hbk).trans h.c0, (World.cell?_of_block (a := ⟨M, 1, none⟩) hbk).trans h.c1, (World.cell?_of_block (a := ⟨M, 2, none⟩) hbk).trans h.c2, (World.cell?_of_block (a := ⟨M, 3, none⟩) hbk).trans h.c3, fun j => (World.frozen?_of_block (a := ⟨M, j, none⟩) hbk).trans (h.fr j), h.ok⟩, hgo.mono fun x hx => .inl hx, hp⟩
  · cases h0
set_option maxHeartbeats 1000000 in
theorem take_any (t : Nat) (T : Nat → Nat) (w : World) (M L : Nat) (ds : List Nat) (ns : List Nd) (fz : Bool) (e : En) (h : Mt t T w M L ds ns fz) (ht : 0 < t) (hlen : ds.length ≤ 140737488355328) (hn : ns.length ≤ 1000000000) (he : okE e) (hz : ∀ b, w.heap.size ≤ b → T b = 0) :
    Calls Try.prog 70 #[.pointer (some ⟨M, 0, none⟩), .agg #[.string e.1, .int .u64 e.2.1, .bool e.2.2.1, .string e.2.2.2]] w fun r w' => (∃ v, r = .returned v) ∧ TakeAns t T w M L ds ns fz e w' := by
  have HM : Hid (Mt t T w M L ds ns fz) := h
  have HE : Hid (okE e) := he
  have HB1 : Hid (Below w.heap.size w (w.alloc (.cells #[.string e.1, .int .u64 e.2.1, .bool e.2.2.1, .string e.2.2.2] 77))) := (Below.refl _ _).alloc (Nat.le_refl _) _
  have g1 : (w.alloc (.cells #[.string e.1, .int .u64 e.2.1, .bool e.2.2.1, .string e.2.2.2] 77)).heap[w.heap.size]? = some (.cells #[.string e.1, .int .u64 e.2.1, .bool e.2.2.1, .string e.2.2.2] 77) := World.alloc_heap_new _ _
  have hws : IntKind.i64.wrap ((wS ns : Int) + (wN e : Int)) = (wS ns : Int) + (wN e : Int) := by
    have h1 := wS_le h.ok
    have h4 : wN e ≤ 2000 := by
      obtain ⟨_, h2, h3, _⟩ := he
      unfold wN
      omega
    exact IntWalk.i64_in _ (by omega)
  have HPT : Hid (∀ W, Below w.heap.size w W → Calls Try.prog 86 #[.pointer (some ⟨L, 0, none⟩), .agg #[.string e.1, .int .u64 e.2.1, .bool e.2.2.1, .string e.2.2.2]] W fun r w' => ∃ ok, r = .returned (.bool ok) ∧ PutAns t T W L ds ns e ok w') := fun W hW => put_any t T W L ds ns e (h.sl.below hW) ht (by omega) (by omega)
  have HZ : Hid (∀ b, w.heap.size ≤ b → T b ≠ t) := fun b hb => by rw [hz b hb]; omega
  have c0 := (HM.out.below HB1.out).c0
  clear h hz he hn hlen
  go_enter Try.func70, Try.ntmps70
  generalize hW1 : w.alloc (.cells #[.string e.1, .int .u64 e.2.1, .bool e.2.2.1, .string e.2.2.2] 77) = W1 at *
  have b0 : W1.cell? ⟨w.heap.size, 0, none⟩ = some (.string e.1) := by rw [cell_of_obj g1]; rfl
  have b1 : W1.cell? ⟨w.heap.size, 1, none⟩ = some (.int .u64 e.2.1) := by rw [cell_of_obj g1]; rfl
  have b2 : W1.cell? ⟨w.heap.size, 2, none⟩ = some (.bool e.2.2.1) := by rw [cell_of_obj g1]; rfl
  have b3 : W1.cell? ⟨w.heap.size, 3, none⟩ = some (.string e.2.2.2) := by rw [cell_of_obj g1]; rfl
  have hE : w.heap.size < W1.heap.size := (Array.getElem?_eq_some_iff.1 g1).1
  go_wp2
  go_region_held3 (fun w' => w'.cell? ⟨M, 0, none⟩ = some (.pointer (some ⟨L, 0, none⟩)) ∧ w'.cell? ⟨w.heap.size, 0, none⟩ = some (.string e.1) ∧ w'.cell? ⟨w.heap.size, 1, none⟩ = some (.int .u64 e.2.1) ∧ w'.cell? ⟨w.heap.size, 2, none⟩ = some (.bool e.2.2.1) ∧ w'.cell? ⟨w.heap.size, 3, none⟩ = some (.string e.2.2.2)) (first | assumption | exact ⟨c0, b0, b1, b2, b3⟩)
    (first
      | (go_at_call 86; refine (HPT.out _ ?_).mono ?_; exact HB1.out.drew; rintro r w2 ⟨ok, rfl, T2, ns2, hsl2, hgo2, hpi2⟩; have HPA : Hid (Sl t T2 w2 L ds ns2 ∧ Goes (· = t) T w T2 w2 ∧ PutIs ds ns e ns2 ok) := ⟨hsl2, (Goes.below HB1.out.drew).trans hgo2, hpi2⟩; have HG2 : Hid (w2.heap[w.heap.size]? = some (.cells #[.string e.1, .int .u64 e.2.1, .bool e.2.2.1, .string e.2.2.2] 77)) := (hgo2.block _ hE (HZ.out _ (Nat.le_refl _))).trans g1; have hS2 : w2.cell? ⟨M, 0, none⟩ = some (.pointer (some ⟨L, 0, none⟩)) ∧ w2.cell? ⟨w.heap.size, 0, none⟩ = some (.string e.1) ∧ w2.cell? ⟨w.heap.size, 1, none⟩ = some (.int .u64 e.2.1) ∧ w2.cell? ⟨w.heap.size, 2, none⟩ = some (.bool e.2.2.1) ∧ w2.cell? ⟨w.heap.size, 3, none⟩ = some (.string e.2.2.2) := ⟨(HPA.out.2.1.cell HM.out.lt (by rw [HM.out.tag]; omega)).trans HM.out.c0, by rw [cell_of_obj HG2.out]; rfl, by rw [cell_of_obj HG2.out]; rfl, by rw [cell_of_obj HG2.out]; rfl, by rw [cell_of_obj HG2.out]; rfl⟩; clear hsl2 hgo2 hpi2))
  obtain ⟨_, e0, e1, e2, e3⟩ := hS2
  clear c0 b0 b1 b2 b3 g1 hW1 HPT HB1 hE
  cases ok with
  | false =>
    go_wp2
    refine bodyPost_ret (results_none rfl _ _ _) rfl ?_
    exact ⟨⟨_, rfl⟩, take_not HM.out HPA.out.1 HPA.out.2.1 HPA.out.2.2⟩
  | true =>
    have hlt2 := World.block_lt_of_cell? w2 _ e0
    have HWT : Hid (∀ W, Calls Try.prog 87 #[.agg #[.string e.1, .int .u64 e.2.1, .bool e.2.2.1, .string e.2.2.2]] W fun r w' => r = .returned (.int .i64 (wN e : Int)) ∧ Below W.heap.size W w') := fun W => weight_any e W HE.out
    obtain ⟨d1, d2, df, _⟩ := take_done HM.out HE.out HPA.out.1 HPA.out.2.1 HPA.out.2.2 (Below.refl _ _)
    go_wp2
    go_region_with (go_at_call 87; refine (HWT.out _).mono ?_; rintro r w3 ⟨rfl, hb3⟩; have hb4 : Below w2.heap.size w2 w3 := (Below.refl _ _).drew.trans hb3; have s1 : w3.cell? ⟨M, 1, none⟩ = some (.int .i64 (wS ns : Int)) := (take_done HM.out HE.out HPA.out.1 HPA.out.2.1 HPA.out.2.2 hb4).1; have sf : ∀ j, w3.frozen? ⟨M, j, none⟩ = false := (take_done HM.out HE.out HPA.out.1 HPA.out.2.1 HPA.out.2.2 hb4).2.2.1)
    all_goals (
      have HB4 : Hid (Below w2.heap.size w2 w3) := hb4
      obtain ⟨_, p2, pf, HDN⟩ := take_done HM.out HE.out HPA.out.1 HPA.out.2.1 HPA.out.2.2 hb4
      have p1 : (w3.setCell ⟨M, 1, none⟩ (.int .i64 ((wS ns : Int) + (wN e : Int)))).cell? ⟨M, 2, none⟩ = some (.int .u64 (lM ns)) := (World.cell?_setCell_other _ ⟨M, 1, none⟩ ⟨M, 2, none⟩ _ (fun q => by cases q)).trans p2
      have p3 : (w3.setCell ⟨M, 1, none⟩ (.int .i64 ((wS ns : Int) + (wN e : Int)))).cell? ⟨w.heap.size, 1, none⟩ = some (.int .u64 e.2.1) := (World.cell?_setCell_other _ ⟨M, 1, none⟩ ⟨w.heap.size, 1, none⟩ _ (fun q => by have q2 := congrArg Addr.block q; have := HM.out.lt; dsimp only at q2; omega)).trans (by rw [cell_of_obj ((hb4.block _ hlt2).trans HG2.out)]; rfl)
      have p4 : ∀ j, (w3.setCell ⟨M, 1, none⟩ (.int .i64 ((wS ns : Int) + (wN e : Int)))).frozen? ⟨M, j, none⟩ = false := fun j => by rw [World.frozen?_setCell]; exact pf j
      clear hb3 hb4 s1 sf p2 pf d1 d2 df e0 e1 e2 e3 hws hlt2
      go_wp2
      go_region
      go_wp2
      go_end0
      exact ⟨⟨_, rfl⟩, HDN.out.below ((Below.refl _ _).drew)⟩)

theorem weight_mem {t : Nat} {T : Nat → Nat} {w : World} {M L : Nat} {ds : List Nat} {ns : List Nd} {fz : Bool} (h : Mt t T w M L ds ns fz) :
    Calls Try.prog 31 #[.pointer (some ⟨M, 0, none⟩)] w fun r w' => r = .returned (.int .i64 (wS ns : Int)) ∧ w' = w := by
  have hc := h.c1
  clear h
  go_enter Try.func31, Try.ntmps31
  go_wp2
  go_ret
  exact ⟨rfl, rfl⟩
theorem last_mem {t : Nat} {T : Nat → Nat} {w : World} {M L : Nat} {ds : List Nat} {ns : List Nd} {fz : Bool} (h : Mt t T w M L ds ns fz) :
    Calls Try.prog 32 #[.pointer (some ⟨M, 0, none⟩)] w fun r w' => r = .returned (.int .u64 (lM ns)) ∧ w' = w := by
  have hc := h.c2
  clear h
  go_enter Try.func32, Try.ntmps32
  go_wp2
  go_ret
  exact ⟨rfl, rfl⟩
theorem frozen_mem {t : Nat} {T : Nat → Nat} {w : World} {M L : Nat} {ds : List Nat} {ns : List Nd} {fz : Bool} (h : Mt t T w M L ds ns fz) :
    Calls Try.prog 33 #[.pointer (some ⟨M, 0, none⟩)] w fun r w' => r = .returned (.bool fz) ∧ w' = w := by
  have hc := h.c3
  clear h
  go_enter Try.func33, Try.ntmps33
  go_wp2
  go_ret
  exact ⟨rfl, rfl⟩
theorem all_mem {t : Nat} {T : Nat → Nat} {w : World} {M L : Nat} {ds : List Nat} {ns : List Nd} {fz : Bool} (h : Mt t T w M L ds ns fz) :
    Calls Try.prog 30 #[.pointer (some ⟨M, 0, none⟩)] w fun e w' => e = .returned (.func (.func 88) #[] #[.pointer (some ⟨w.heap.size, 0, none⟩), .pointer (some ⟨w.heap.size + 1, 0, none⟩), .pointer (some ⟨w.heap.size + 2, 0, none⟩)]) ∧ Below w.heap.size w w' ∧ w'.cell? ⟨w.heap.size, 0, none⟩ = some (.pointer (some ⟨L, 0, none⟩)) ∧ w'.cell? ⟨w.heap.size + 1, 0, none⟩ = some (.string ⟨#[]⟩) ∧ w'.cell? ⟨w.heap.size + 2, 0, none⟩ = some (.int .u64 18446744073709551615) := by
  have hc := h.c0
  clear h
  go_enter Try.func30, Try.ntmps30
  go_wp2_with fail
  refine (from_any L ⟨#[]⟩ 18446744073709551615 w).mono ?_
  rintro e w3 ⟨rfl, hw3⟩
  have HF : Hid (Below w.heap.size w w3 ∧ w3.cell? ⟨w.heap.size, 0, none⟩ = some (.pointer (some ⟨L, 0, none⟩)) ∧ w3.cell? ⟨w.heap.size + 1, 0, none⟩ = some (.string ⟨#[]⟩) ∧ w3.cell? ⟨w.heap.size + 2, 0, none⟩ = some (.int .u64 18446744073709551615)) := by
    refine ⟨by rw [hw3]; exact (((Below.refl _ _).alloc (Nat.le_refl _) _).alloc (by simp) _).alloc (by simp; omega) _, ?_, ?_, ?_⟩
    · rw [hw3, World.cell?_of_block (Below.heap_alloc _ _ _ (by simp <;> omega)), World.cell?_of_block (Below.heap_alloc _ _ _ (by simp <;> omega)), World.cell?_alloc_at _ _ _ _ rfl]; rfl
    · rw [hw3, World.cell?_of_block (Below.heap_alloc _ _ _ (by simp <;> omega)), World.cell?_alloc_at _ _ _ _ (by simp)]; rfl
    · rw [hw3, World.cell?_alloc_at _ _ _ _ (by simp)]; rfl
  clear hw3
  go_wp2
  go_ret
  exact ⟨rfl, HF.out⟩
end Mem
end Go.Proofs.Ytcioaoanhmpdkaa
