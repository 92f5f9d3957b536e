import Derived.Test.YtnhhalabmmcemaaDoorTaI
import Derived.Test.YtnhhalabmmcemaaDoorTg1
import Derived.Test.YtnhhalabmmcemaaDoorEAp
namespace Go.Proofs.YtnhhalabmmcemaaDoor
namespace Tbl
open Go.RowKit CMath Byt Laws Irw Crw Cod Qb
set_option linter.unusedVariables false
set_option linter.unusedSimpArgs false
set_option maxRecDepth 20000

theorem num_le11 {n : Nat} (h : n < 36893488147419103232) : (num n).length ≤ 11 := by
  rw [num]
  split
  · simp
  · have := num_le10 (n := n / 128) (by omega)
    simp only [List.length_cons]
    omega
theorem entB_le (s : Nat) (e : En) (hk : e.1.size ≤ 1000000) (hv : e.2.2.2.size ≤ 1000000) (hs : s ≤ e.1.size) (hq : e.2.1 < 18446744073709551616) : (entB s e).length ≤ 2000100 := by
  unfold entB
  have h1 := num_le10 (n := s) (by omega)
  have h2 := num_le10 (n := (kB e).length - s) (by unfold kB; rw [strB_length]; omega)
  have h3 := num_le11 (n := tag e) (by unfold tag; split <;> omega)
  have h4 : ((kB e).drop s).length ≤ 1000000 := by unfold kB; rw [List.length_drop, strB_length]; omega
  have h5 : (if e.2.2.1 then [] else words (vB e)).length ≤ 1000010 := by
    split
    · simp
    · unfold vB; rw [words_len']; have := num_le10 (n := e.2.2.2.size) (by omega); omega
  simp only [List.length_append]
  omega
theorem bnd_mid {r bits : Int} {S : Ts} {css : List (List En)} {c : List En} (h : Inv (Rn r) bits S css c) (hn : (css.flatten ++ c).length ≤ 100000) (e : En) (hk : e.1.size ≤ 1000000) (hv : e.2.2.2.size ≤ 1000000) (hq : e.2.1 < 18446744073709551616) : Bnd (midS r bits S e) := by
  have hb := h.bnd (by omega)
  obtain ⟨h1, h2⟩ := h.sizes
  have hcl : c.length ≤ 100000 := by rw [List.length_append] at hn; omega
  have a1 := pushes_len (Rn r) c (fun e he => h2 e (by simp [he]))
  have a2 := pushes_plen (Rn r) c st0
  have a9 := pushes_n (Rn r) c st0
  have z1 : st0.p.length = 0 := rfl
  have z2 : st0.n = 0 := rfl
  have hsh : sh (Rn r) S.cur e ≤ e.1.size := by
    unfold sh
    split
    · omega
    · have := shr_le_right (strB S.cur.last) (kB e); unfold kB at this; rw [strB_length] at this; exact this
  have he := entB_le _ e hk hv hsh hq
  have hm := h.mt
  refine ⟨?_, ?_, ?_, hb.l, hb.ib, hb.ip, hb.in_, hk, ?_, ?_⟩
  · show (S.cur.b ++ entB (sh (Rn r) S.cur e) e).length ≤ _
    rw [List.length_append, h.cur]; rw [h.cur] at he; omega
  · show (Qb.plc (Rn r) S.cur).length ≤ _
    unfold Qb.plc
    split
    · rw [List.length_append, h.cur, Qb.four_len]; omega
    · rw [h.cur]; omega
  · show S.cur.n + 1 ≤ _
    rw [h.cur]; omega
  · show S.mt.n + 1 ≤ _
    rw [hm]; show (css.flatten ++ c).length + 1 ≤ _; omega
  · show (if 0 < bits then S.keys ++ [e.1] else S.keys).length ≤ _
    rw [h.keys]
    split
    · simp only [List.length_append, List.length_map, List.length_cons, List.length_nil]; rw [List.length_append] at hn; omega
    · simp
theorem Inv.bne {r bits : Int} {S : Ts} {css : List (List En)} (h : Inv (Rn r) bits S css []) (hn : css.flatten.length ≤ 100000) : Bne S := by
  obtain ⟨h1, h2⟩ := h.sizes
  have a6 := pushes_plen (Rn r) (ixs (Rn r) 0 css) st0
  have a7 := ixs_len (Rn r) css 0
  have z1 : st0.p.length = 0 := rfl
  have a3 := laid_len (Rn r) css (fun e he => h2 e (List.mem_append_left _ he)) h.ne
  refine ⟨h.bnd (by rw [List.append_nil]; omega), by rw [h.idx]; omega, ?_, ?_, by rw [h.laid]; omega⟩
  · rw [h.mt]
    show (mtF (css.flatten ++ [])).lo.size ≤ _
    have key : ∀ (l : List En) (m : Mt), m.lo.size ≤ 1000000 → (∀ e ∈ l, e.1.size ≤ 1000000) → (l.foldl Mt.more m).lo.size ≤ 1000000 := by
      intro l
      induction l with
      | nil => intro m hm _; exact hm
      | cons x l ih =>
        intro m hm hl
        rw [List.foldl_cons]
        refine ih _ ?_ (fun e he => hl e (by simp [he]))
        show (if m.n = 0 then x.1 else m.lo).size ≤ _
        split
        · exact hl x (by simp)
        · exact hm
    exact key _ _ (by simp [mt0, ByteArray.size]) (fun e he => by have := (h2 e he).1.k2; omega)
  · rw [h.keys]
    intro s hs
    split at hs
    · obtain ⟨e, he, rfl⟩ := List.mem_map.1 hs
      have := (h2 e he).1.k2
      omega
    · simp at hs
/-- What made holds while it goes on. -/
structure Mq (w : World) (M : Nat) (bb r bits : Int) (S : Ts) (lb : List Nat) (es : List En) (vb vi : Value) (T : Nat → Nat) (W : World) : Prop where
  ma : TmAt 10 T W M bb r bits S
  ow : Erw.OwnE 7 T W vi es
  ob : OwnB 6 T W vb lb
  bl : Below w.heap.size w W
  lt : w.heap.size + 1 < W.heap.size
  bx : W.heap[w.heap.size + 1]? = some (.cells #[.int .u64 0, .int .i64 0, .int .i64 0, .int .i64 0, .string ⟨#[]⟩, .string ⟨#[]⟩] 28)
  bt : T (w.heap.size + 1) = 0
  hi : Hi T W
  fr : ∀ b, b < w.heap.size → T b = 0
theorem Mq.step {w : World} {M : Nat} {bb r bits : Int} {S S' : Ts} {lb lb' : List Nat} {es es' : List En} {vb vb' vi vi' : Value} {T T' : Nat → Nat} {W W' : World} {u : Nat → Prop} (h : Mq w M bb r bits S lb es vb vi T W) (hg : Goes u T W T' W') (hu : ¬ u 0) (ma : TmAt 10 T' W' M bb r bits S') (ow : Erw.OwnE 7 T' W' vi' es') (ob : OwnB 6 T' W' vb' lb') : Mq w M bb r bits S' lb' es' vb' vi' T' W' :=
  ⟨ma, ow, ob, below_goes h.bl hg (fun b hb => by rw [h.fr b hb]; exact hu), Nat.lt_of_lt_of_le h.lt hg.size, (hg.block _ h.lt (by rw [h.bt]; exact hu)).trans h.bx, (hg.tag _ h.lt (by rw [h.bt]; exact hu)).trans h.bt, h.hi.goes hg, fun b hb => (hg.tag b (Nat.lt_of_lt_of_le hb h.bl.size) (by rw [h.fr b hb]; exact hu)).trans (h.fr b hb)⟩
theorem Mq.add {w : World} {M : Nat} {bb r bits : Int} {S S' : Ts} {lb : List Nat} {es : List En} {vb vi : Value} {T T' : Nat → Nat} {W W' : World} (h : Mq w M bb r bits S lb es vb vi T W) (hg : Goes (Tk 10) T W T' W') (ma : TmAt 10 T' W' M bb r bits S') : Mq w M bb r bits S' lb es vb vi T' W' :=
  h.step hg (by simp [Tk]) ma (h.ow.goes hg (by simp [Tk])) (h.ob.goes hg (by simp [Tk]))
theorem Mq.es {w : World} {M : Nat} {bb r bits : Int} {S : Ts} {lb : List Nat} {es es' : List En} {vb vi vi' : Value} {T T' : Nat → Nat} {W W' : World} (h : Mq w M bb r bits S lb es vb vi T W) (hg : Goes (· = 7) T W T' W') (ow : Erw.OwnE 7 T' W' vi' es') : Mq w M bb r bits S lb es' vb vi' T' W' :=
  h.step hg (by omega) (h.ma.goes hg (fun i hi => by omega)) ow (h.ob.goes hg (by omega))
theorem Mq.lb {w : World} {M : Nat} {bb r bits : Int} {S : Ts} {lb lb' : List Nat} {es : List En} {vb vb' vi : Value} {T T' : Nat → Nat} {W W' : World} (h : Mq w M bb r bits S lb es vb vi T W) (hg : Goes (· = 6) T W T' W') (ob : OwnB 6 T' W' vb' lb') : Mq w M bb r bits S lb' es vb' vi T' W' :=
  h.step hg (by omega) (h.ma.goes hg (fun i hi => by omega)) (h.ow.goes hg (by omega)) ob
theorem Mq.below {w : World} {M : Nat} {bb r bits : Int} {S : Ts} {lb : List Nat} {es : List En} {vb vi : Value} {T : Nat → Nat} {W W' : World} (h : Mq w M bb r bits S lb es vb vi T W) (hb : Below W.heap.size W W') : Mq w M bb r bits S lb es vb vi T W' :=
  h.step (Goes.below (t := fun _ => False) hb) (fun z => z) (h.ma.below hb) (h.ow.below hb) (h.ob.below hb)
def sixW (W : World) (B : Nat) (m : Mt) : World := ((((((W.setCell ⟨B, 0, none⟩ (.int .u64 0)).setCell ⟨B, 1, none⟩ (.int .i64 m.wt)).setCell ⟨B, 2, none⟩ (.int .i64 m.by_)).setCell ⟨B, 3, none⟩ (.int .i64 (m.n : Int))).setCell ⟨B, 4, none⟩ (.string m.lo)).setCell ⟨B, 5, none⟩ (.string m.hi))
theorem six_goes {T : Nat → Nat} {W : World} {B : Nat} {m : Mt} (h : T B = 0) : Goes (· = 0) T W T (sixW W B m) := by
  unfold sixW
  exact (((((Goes.setCell h).trans (Goes.setCell h)).trans (Goes.setCell h)).trans (Goes.setCell h)).trans (Goes.setCell h)).trans (Goes.setCell h)
theorem six_blw {w W : World} {B : Nat} {m : Mt} (h : Below w.heap.size w W) (hB : w.heap.size ≤ B) : Below w.heap.size w (sixW W B m) :=
  (((((h.setCell (p := ⟨B, 0, none⟩) hB _).setCell (p := ⟨B, 1, none⟩) hB _).setCell (p := ⟨B, 2, none⟩) hB _).setCell (p := ⟨B, 3, none⟩) hB _).setCell (p := ⟨B, 4, none⟩) hB _).setCell (p := ⟨B, 5, none⟩) hB _
/-- What made answers. -/
def MdT (w : World) (bb r bits : Int) (l : List En) (e : Ending) (w' : World) : Prop :=
  Below w.heap.size w w' ∧ ((mds l = [] ∧ ∃ m : Mt, e = .returned (.tuple #[.slice none 0 0, .slice none 0 0, .agg #[.int .u64 0, .int .i64 m.wt, .int .i64 m.by_, .int .i64 (m.n : Int), .string m.lo, .string m.hi], .bool true])) ∨
  (mds l ≠ [] ∧ ∃ L css T a c a' c' m, m = (finS L ((whole bits L).length : Int)).mt ∧ e = .returned (.tuple #[.slice a (whole bits L).length c, .slice a' (mds l).length c', .agg #[.int .u64 0, .int .i64 m.wt, .int .i64 m.by_, .int .i64 (m.n : Int), .string m.lo, .string m.hi], .bool true]) ∧ Inv (Rn r) bits L css [] ∧ css.flatten = mds l ∧ OwnB 6 T w' (.slice a (whole bits L).length c) (whole bits L) ∧ Erw.OwnE 7 T w' (.slice a' (mds l).length c') (mds l) ∧ (∀ b, b < w.heap.size → T b = 0) ∧ Hi T w'))
theorem md_none {w : World} {M : Nat} {bb r bits : Int} {S : Ts} {lb : List Nat} {es : List En} {vb vi : Value} {T : Nat → Nat} {W : World} {l : List En} (h : Mq w M bb r bits S lb es vb vi T W) (hl : mds l = []) (m : Mt) : MdT w bb r bits l (.returned (.tuple #[.slice none 0 0, .slice none 0 0, .agg #[.int .u64 0, .int .i64 m.wt, .int .i64 m.by_, .int .i64 (m.n : Int), .string m.lo, .string m.hi], .bool true])) (sixW W (w.heap.size + 1) m) :=
  ⟨six_blw h.bl (by omega), .inl ⟨hl, m, rfl⟩⟩
theorem md_some {w : World} {M N : Nat} {bb r bits : Int} {S L : Ts} {css : List (List En)} {a a' : Option Addr} {c c' n : Nat} {T : Nat → Nat} {W : World} {l : List En} (h : Mq w M bb r bits S (whole bits L) (mds l) (.slice a N c) (.slice a' n c') T W) (hN : N = (whole bits L).length) (hn : n = (mds l).length) (hl : mds l ≠ []) (hi : Inv (Rn r) bits L css []) (hf : css.flatten = mds l) (m : Mt) (hm : m = (finS L ((whole bits L).length : Int)).mt) : MdT w bb r bits l (.returned (.tuple #[.slice a N c, .slice a' n c', .agg #[.int .u64 0, .int .i64 m.wt, .int .i64 m.by_, .int .i64 (m.n : Int), .string m.lo, .string m.hi], .bool true])) (sixW W (w.heap.size + 1) m) := by
  have hg : Goes (· = 0) T W T (sixW W (w.heap.size + 1) m) := six_goes h.bt
  have h6 := h.ob.goes hg (by omega)
  have h7 := h.ow.goes hg (by omega)
  subst hN
  subst hn
  exact ⟨six_blw h.bl (by omega), .inr ⟨hl, L, css, T, a, c, a', c', m, hm, rfl, hi, hf, h6, h7, h.fr, h.hi.goes hg⟩⟩
/-- What stands of the maker and its entries. -/
def Mi (r bits : Int) (S : Ts) (es : List En) : Prop := ∃ css c, Inv (Rn r) bits S css c ∧ css.flatten ++ c = es
theorem Mi.laid {r bits : Int} {S : Ts} {es : List En} (h : Mi r bits S es) : S.ended = false := by
  obtain ⟨css, c, hi, _⟩ := h
  exact hi.op
theorem Mi.bnd {r bits : Int} {S : Ts} {es : List En} (h : Mi r bits S es) (hn : es.length ≤ 100000) : Bnd S ∧ S.mt.n = es.length ∧ Bne (lastS r S) := by
  obtain ⟨css, c, hi, rfl⟩ := h
  obtain ⟨css', hl, hf⟩ := hi.last hn
  exact ⟨hi.bnd (by omega), by rw [hi.mt], hl.bne (by rw [hf]; exact hn)⟩
/-- One entry more, as the statements' made goes. -/
theorem Mi.add {bb r bits : Int} {S : Ts} {es : List En} (h : Mi r bits S es) (hn : es.length ≤ 100000) (e : En) (h0 : 0 ≤ e.2.1) :
    (layR S e ≠ 0 ∧ mdStep es e = es ∧ tadd bb r bits S e = ([], layR S e, S)) ∨ (mdStep es e = es ++ [e] ∧ (tadd bb r bits S e).2.1 = 0 ∧ (tadd bb r bits S e).2.2.laid = S.laid ++ (tadd bb r bits S e).1 ∧ Mi r bits (tadd bb r bits S e).2.2 (es ++ [e])) := by
  obtain ⟨css, c, hi, rfl⟩ := h
  rcases hi.add (bb := bb) hn e h0 with ⟨h1, h2⟩ | ⟨h1, h2, h3, css', c', h4, h5⟩
  · exact .inl ⟨h1, mdStep_no hi h1, h2⟩
  · exact .inr ⟨mdStep_yes hi h1, h2, h3, css', c', h4, h5⟩
theorem Mi.mid {r bits : Int} {S : Ts} {es : List En} (h : Mi r bits S es) (hn : es.length ≤ 100000) (e : En) (hk : e.1.size ≤ 1000000) (hv : e.2.2.2.size ≤ 1000000) (hq : e.2.1 < 18446744073709551616) : Bnd (midS r bits S e) := by
  obtain ⟨css, c, hi, rfl⟩ := h
  exact bnd_mid hi hn e hk hv hq
/-- What a slice of bytes of one's own is. -/
theorem own0_form {T : Nat → Nat} {w : World} {v : Value} {l : List Nat} {t : Nat} (h : OwnB t T w v l) : ∃ a c n, n = l.length ∧ v = .slice a n c ∧ IsB w a l ∧ (a = none → c = 0) := by
  obtain ⟨a, c, e, hi, _, hn, _⟩ := h.form
  exact ⟨a, c, _, rfl, e, hi, hn⟩
theorem own_is {T : Nat → Nat} {w : World} {a : Option Addr} {n c : Nat} {l : List Nat} {t : Nat} (h : OwnB t T w (.slice a n c) l) : n = l.length ∧ IsB w a l ∧ (a = none → c = 0) := by
  obtain ⟨a', c', e, hi, _, hn, _⟩ := h.form
  simp only [Value.slice.injEq] at e
  obtain ⟨rfl, rfl, rfl⟩ := e
  exact ⟨rfl, hi, hn⟩
theorem ixs_nn (R : Nat) (e : En) : ∀ (css : List (List En)) p, e ∈ ixs R p css → 0 ≤ e.2.1 := by
  intro css
  induction css with
  | nil => intro p hp; simp [ixs] at hp
  | cons a css ih =>
    intro p hp
    simp only [ixs, List.mem_cons] at hp
    rcases hp with rfl | hp
    · exact Int.le_refl _
    · exact ih _ hp
theorem whole_pre (r bits : Int) (S : Ts) : whole bits (lastS r S) = S.laid ++ (whole bits (lastS r S)).drop S.laid.length := by
  have key : ∃ m, whole bits (lastS r S) = S.laid ++ m := by
    unfold lastS whole whole0
    split
    · exact ⟨_, by show ((S.laid ++ blk S.cur) ++ _) ++ _ = _; rw [List.append_assoc, List.append_assoc]⟩
    · exact ⟨_, by rw [List.append_assoc]⟩
  obtain ⟨m, hm⟩ := key
  rw [hm, List.drop_left]
theorem foot_len {a b c : Nat} {m : Mt} (hlo : m.lo.size ≤ 1000000) (hhi : m.hi.size ≤ 1000000) : (foot a b c m).length ≤ 10000000 := by
  have h1 := num_le10 (show m.lo.size < 18446744073709551616 by omega)
  have h2 := num_le10 (show m.hi.size < 18446744073709551616 by omega)
  unfold foot footB
  simp only [List.length_append, List.length_cons, List.length_nil, words_len']
  have := pre_len [(a : Int), b, c, m.n, m.wt] 5
  omega
theorem whole_len {r bits : Int} {L : Ts} {css : List (List En)} (h : Inv (Rn r) bits L css []) (hn : css.flatten.length ≤ 100000) : (whole bits L).length ≤ 100000000 + 712 * css.flatten.length + 704 * css.flatten.length := by
  have hb := h.bne hn
  obtain ⟨h1, h2⟩ := h.sizes
  have a3 := laid_len (Rn r) css (fun e he => h2 e (List.mem_append_left _ he)) h.ne
  have hch := ixs_chain (Rn r) css 0 ⟨#[]⟩ h.ne ((chain_app _ _ _).1 h.ch).1 (by omega)
  have a5 := pushes_len (Rn r) (ixs (Rn r) 0 css) (fun e he => ⟨chain_ok hch e he, ixs_nn _ _ _ _ he⟩)
  have a6 := pushes_plen (Rn r) (ixs (Rn r) 0 css) st0
  have a7 := ixs_len (Rn r) css 0
  have z1 : st0.p.length = 0 := rfl
  have hf := foot_len (a := L.laid.length) (b := (blk L.idx).length) (c := (BMath.mk (L.keys.map strB) bits).length) hb.lo hb.bnd.hi
  have hk := BMath.mk_length_le (L.keys.map strB) bits
  have hbk := blk_len L.idx
  unfold whole whole0
  simp only [List.length_append, Qb.four_len]
  rw [h.laid] at hf ⊢
  rw [h.idx] at hbk hf ⊢
  omega
theorem meta_x {t : Nat} {T : Nat → Nat} {w : World} {M : Nat} {bb r bits : Int} {S : Ts} (p : TmAt t T w M bb r bits S) (m : Mt) (hm : S.mt = m) :
    Calls Tryd.prog 22 #[.pointer (some ⟨M, 0, none⟩)] w fun e w' => e = .returned (.agg #[.int .u64 0, .int .i64 m.wt, .int .i64 m.by_, .int .i64 (m.n : Int), .string m.lo, .string m.hi]) ∧ Below w.heap.size w w' := by
  subst hm
  exact meta_any t T w M bb r bits S p
theorem loadAtC {V : Array Value} {w W : World} {n : Nat} (hV : V.size = 27) (hh : W.heap[n]? = some (.cells V 32)) : (Instr.loadAt 32 (.pointer (some ⟨n, 0, none⟩))).run Tryd.prog W = .ok (.agg V) W := by
  have h1 : (loadCellsFrom ⟨n, 0, none⟩ 0 27 #[]).run Tryd.prog W = .ok V W := by
    rw [← hV]
    have := run_loadCells_list (P := Tryd.prog) W ⟨n, 0, none⟩ V.toList (fun j v hv => by
      have hadd : (⟨n, 0, none⟩ : Addr).add j = ⟨n, j, none⟩ := by unfold Addr.add; split <;> simp_all
      rw [hadd, cell_of_row _ _ j V 32 (0, 0) hh]
      simpa using hv)
    simpa [loadCells] using this
  simp only [Instr.loadAt, Instr.sureAddr, Sem.run_bind, Sem.run_pure, Result.andThen]
  exact loadVarC (w := w) h1
set_option maxHeartbeats 4000000 in
theorem tmade_any (w : World) (f : Nat → Int) (V : Array Value) (hV : V = cfgA f) (a : Option Addr) (cap n : Nat) (l : List En) (ht : Tab w) (hl : Erw.IsE w a l) (hn : n = l.length) (hnl : n ≤ 100000) (hsz : ∀ e ∈ l, e.1.size ≤ 1000000 ∧ e.2.2.2.size ≤ 1000000 ∧ 0 ≤ e.2.1 ∧ e.2.1 < 18446744073709551616) (hr : -9223372036854775808 ≤ f 14 ∧ f 14 ≤ 9223372036854775807) (hbt : -9223372036854775808 ≤ f 15 ∧ f 15 ≤ 9223372036854775807) :
    Calls Tryd.prog 8 #[.agg V, .slice a n cap] w fun e w' => MdT w (f 13) (f 14) (f 15) l e w' := by
  obtain ⟨i0, hi0, hz0, hz1, hz2⟩ := info_parts Erw.infoE
  have HL : Hid (Erw.IsE w a l ∧ n = l.length ∧ ∀ e ∈ l, e.1.size ≤ 1000000 ∧ e.2.2.2.size ≤ 1000000 ∧ 0 ≤ e.2.1 ∧ e.2.1 < 18446744073709551616) := ⟨hl, hn, hsz⟩
  have HT : Hid (Tab w) := ht
  have HR : Hid (-9223372036854775808 ≤ f 14 ∧ f 14 ≤ 9223372036854775807) := hr
  have HBT : Hid (-9223372036854775808 ≤ f 15 ∧ f 15 ≤ 9223372036854775807) := hbt
  obtain ⟨W0, hW0⟩ : ∃ W0, (w.alloc (.cells V 32)).alloc (.cells #[.int .u64 0, .int .i64 0, .int .i64 0, .int .i64 0, .string ⟨#[]⟩, .string ⟨#[]⟩] 28) = W0 := ⟨_, rfl⟩
  have HB0 : Hid (Below w.heap.size w W0) := by
    rw [← hW0]
    exact ((Below.refl _ _).alloc (Nat.le_refl _) _).alloc (by simp) _
  have HX0 : Hid (W0.heap[w.heap.size + 1]? = some (.cells #[.int .u64 0, .int .i64 0, .int .i64 0, .int .i64 0, .string ⟨#[]⟩, .string ⟨#[]⟩] 28) ∧ W0.heap.size = w.heap.size + 2) := by
    rw [← hW0]
    refine ⟨?_, by simp⟩
    have h := World.alloc_heap_new (w.alloc (.cells V 32)) (.cells #[.int .u64 0, .int .i64 0, .int .i64 0, .int .i64 0, .string ⟨#[]⟩, .string ⟨#[]⟩] 28)
    rw [show (w.alloc (.cells V 32)).heap.size = w.heap.size + 1 by simp] at h
    exact h
  have HLD : Hid ((Instr.loadAt 32 (.pointer (some ⟨w.heap.size, 0, none⟩))).run Tryd.prog W0 = .ok (.agg V) W0) := by
    apply Qb.hid
    refine loadAtC (w := w) (by rw [hV]; rfl) ?_
    rw [← hW0]
    have h1 := World.alloc_heap_new w (.cells V 32)
    exact (((Below.refl _ _).alloc (Nat.le_refl _) _).block w.heap.size (by simp)).trans h1
  have HNM : Hid (Calls Tryd.prog 19 #[.agg V] W0 fun e w' => NmIs 10 (fun _ => 0) W0 (f 13) (f 14) (f 15) e w') := by rw [hV]; exact Qb.hid (tnew_any 10 (fun _ => 0) W0 f)
  clear hl hn hsz ht hr hbt hV
  go_enter Tryd.func8, Tryd.ntmps8
  go_wp2_with (first
    | (refine wpList_value (.agg V) (by rfl) (run_value (s := Instr.loadAt 32 (.pointer (some ⟨w.heap.size, 0, none⟩))) HLD.out) ?_)
    | (go_at_call 19; go_loud (refine HNM.out.mono ?_; rintro e w1 ⟨M, T1, rfl, hM1, hm1, hb1, hg1⟩; have HS1 : Hid (Mq w M (f 13) (f 14) (f 15) ts0 [] [] (.slice none 0 0) (.slice none 0 0) T1 w1) := Qb.hid ⟨hm1, Erw.OwnE.empty _ _ _, OwnB.empty _ _ _, bl_step HB0.out hb1, (by have := hb1.size; have := HX0.out.2; omega), (hb1.block _ (by have := HX0.out.2; omega)).trans HX0.out.1, (hg1.tag _ (by have := HX0.out.2; omega) (fun z => z)), (fun b hb => hg1.high b hb rfl), (fun b hb => hg1.tag b (by have := HX0.out.2; omega) (fun z => z))⟩; clear hm1 hb1 hg1)))
  clear hW0 HX0 HB0 HNM HLD hM1
  go_loopw [4, 5, 9] (fun vb vi i wr => ∃ (k : Nat) (ab ai : Option Addr) (nb ni cb ci : Nat) (S : Ts), k ≤ n ∧ ni ≤ k ∧ vb = .slice ab nb cb ∧ vi = .slice ai ni ci ∧ i = .int .i64 (k : Int) ∧ Hid (ni = (mds (l.take k)).length ∧ nb = S.laid.length ∧ Mi (f 14) (f 15) S (mds (l.take k)) ∧ ∃ T, Mq w M (f 13) (f 14) (f 15) S S.laid (mds (l.take k)) (.slice ab nb cb) (.slice ai ni ci) T wr)) (fun _ _ i _ => n - (intOf i).toNat)
  case atStart => exact ⟨0, none, none, 0, 0, 0, 0, ts0, Nat.zero_le _, Nat.le_refl _, rfl, rfl, rfl, rfl, rfl, ⟨[], [], Inv.first _ _, rfl⟩, T1, HS1.out⟩
  case round =>
    clear HS1
    obtain ⟨k, ab, ai, nb, ni, cb, ci, S, hk, hNk, rfl, rfl, rfl, HK⟩ := hrel
    rename World => wr
    by_cases hlt : k < n
    · obtain ⟨hni, hnb, hmi, T, hst⟩ := HK.out
      have HST : Hid (Mq w M (f 13) (f 14) (f 15) S S.laid (mds (l.take k)) (.slice ab nb cb) (.slice ai ni ci) T wr) := hst
      have HNI : Hid (ni = (mds (l.take k)).length) := hni
      have HNB : Hid (nb = S.laid.length) := hnb
      have hkl : k < l.length := by have := HL.out.2.1; omega
      obtain ⟨b1, o1, ⟨yk, ys, yd, yv⟩, rfl, hy, _, x0, x1, x2, x3⟩ := Qg.isE_at (HL.out.1.below hst.bl) hkl
      have q1 : (k : Int) < (n : Int) := by omega
      have hs := HL.out.2.2 _ (List.mem_of_getElem? hy)
      dsimp only at x0 x1 x2 x3 hs
      obtain ⟨s9, rfl⟩ : ∃ s : Nat, ys = (s : Int) := ⟨ys.toNat, by omega⟩
      have HMT : Hid (mds (l.take (k + 1)) = mdStep (mds (l.take k)) (yk, (s9 : Int), yd, yv)) := mds_take hy
      have hnl2 : (mds (l.take k)).length ≤ 100000 := by omega
      have hbd := hmi.bnd hnl2
      have hbl : S.laid.length ≤ 100000000000 := hbd.1.l
      have HADD : Hid (Calls Tryd.prog 20 #[.pointer (some ⟨M, 0, none⟩), .agg #[.string yk, .int .u64 (s9 : Int), .bool yd, .string yv]] wr fun e w' => MkIs 10 T wr M (f 13) (f 14) (f 15) (tadd (f 13) (f 14) (f 15) S (yk, (s9 : Int), yd, yv)) e w') := tadd_any 10 T wr M (f 13) (f 14) (f 15) S yk s9 yd yv hst.ma hst.hi (by omega) (HT.out.below hst.bl HT.out.lt) (hst.fr 0 HT.out.lt) hs.1 hs.2.1 hbd.1 (hmi.mid hnl2 _ hs.1 hs.2.1 hs.2.2.2) HR.out
      have HIE : Hid (Erw.IsE w (some ⟨b1, o1, none⟩) l ∧ l[k]? = some (yk, (s9 : Int), yd, yv)) := ⟨HL.out.1, hy⟩
      rcases hmi.add (bb := f 13) hnl2 (yk, (s9 : Int), yd, yv) hs.2.2.1 with ⟨hR, hstp, hta⟩ | ⟨hstp, hz, hla, hmi2⟩
      · rw [hstp] at HMT
        rw [hta] at HADD
        have HMI := Qb.hid hmi
        have HADD2 : Hid (Calls Tryd.prog 20 #[.pointer (some ⟨M, 0, none⟩), .agg #[.string yk, .int .u64 (s9 : Int), .bool yd, .string yv]] wr fun e w' => ∃ am nm cm T', e = .returned (.tuple #[.slice am nm cm, .int .i64 (layR S (yk, (s9 : Int), yd, yv))]) ∧ Mq w M (f 13) (f 14) (f 15) S S.laid (mds (l.take k)) (.slice ab nb cb) (.slice ai ni ci) T' w') := HADD.out.mono fun e w' h => by
          obtain ⟨T', v, rfl, ho, _, hm, hg⟩ := h
          obtain ⟨am, cm, nm, _, rfl, _, _⟩ := own0_form ho
          exact ⟨am, nm, cm, T', rfl, HST.out.add hg hm⟩
        have had2 : (layR S (yk, (s9 : Int), yd, yv) == 0) = false := by simpa using hR
        clear HADD hta hmi hst hni hnb hbd hs hkl HK hy hstp
        generalize layR S (yk, (s9 : Int), yd, yv) = ad at *
        generalize mds (l.take k) = acc at *
        go_wp2_with (first
          | (go_at_call 20; go_loud (refine HADD2.out.mono ?_; rintro e w2 ⟨am, nm, cm, T2, rfl, h2⟩; have HS2 := Qb.hid h2; clear h2))
          | (go_at_call 11; go_loud (refine (Tbl.num_any _ _).mono ?_; rintro e w3 ⟨rfl, hw⟩; have hw2 := hw.symm; clear hw; subst hw2)))
        go_roundw
        case rel => exact ⟨k + 1, ab, ai, nb, ni, cb, ci, S, by omega, by omega, rfl, rfl, by go_num, by rw [HMT.out]; exact ⟨HNI.out, HNB.out, HMI.out, _, HS2.out⟩⟩
        case measure => simp [intOf]; omega
      · rw [hstp] at HMT
        obtain ⟨A, hA⟩ : ∃ A, tadd (f 13) (f 14) (f 15) S (yk, (s9 : Int), yd, yv) = A := ⟨_, rfl⟩
        rw [hA] at HADD hz hla hmi2
        have HLA := Qb.hid hla
        have HMI := Qb.hid hmi2
        have hbd2 := (hmi2.bnd (by rw [List.length_append]; simp; omega)).1.l
        rw [hla, List.length_append] at hbd2
        have HADD2 : Hid (Calls Tryd.prog 20 #[.pointer (some ⟨M, 0, none⟩), .agg #[.string yk, .int .u64 (s9 : Int), .bool yd, .string yv]] wr fun e w' => ∃ am nm cm T', e = .returned (.tuple #[.slice am nm cm, .int .i64 0]) ∧ OwnB 0 T' w' (.slice am nm cm) A.1 ∧ Mq w M (f 13) (f 14) (f 15) A.2.2 S.laid (mds (l.take k)) (.slice ab nb cb) (.slice ai ni ci) T' w') := HADD.out.mono fun e w' h => by
          obtain ⟨T', v, he, ho, _, hm, hg⟩ := h
          rw [hz] at he
          subst he
          obtain ⟨am, cm, nm, hnm, rfl, hi, hc⟩ := own0_form ho
          exact ⟨am, nm, cm, T', rfl, ho, HST.out.add hg hm⟩
        clear HADD hA hz hla hmi hmi2 hst hni hbd hs hkl HK hy hstp
        generalize mds (l.take k) = acc at *
        obtain ⟨NB, hNB⟩ : ∃ N, N = S.laid.length + A.1.length := ⟨_, rfl⟩
        have HNB2 := Qb.hid hNB
        clear hNB hnb
        go_wp2_with (first
          | (go_at_call 20; go_loud (refine HADD2.out.mono ?_; rintro e w2 ⟨am, nm, cm, T2, rfl, hom, h2⟩; have HS2 := Qb.hid h2; have HOM := Qb.hid hom; have hcs := (HIE.out.1.below h2.bl) (by intro e; have h9 := HIE.out.2; rw [e] at h9; cases h9); obtain ⟨b', o', e', hr'⟩ := hcs; cases e'; obtain ⟨y0, y1, y2, y3⟩ := hr'.2 k _ HIE.out.2; dsimp only at y0 y1 y2 y3; clear h2 hr' x0 x1 x2 x3 hom))
          | (go_at_call 11; go_loud (refine (Tbl.num_any _ _).mono ?_; rintro e w3 ⟨rfl, hw⟩; have hw2 := hw.symm; clear hw; subst hw2))
          | (at_builtin; go_loud (refine Erw.wpList_appE _ (by rfl) (.tmp 37) (.tmp 42) 22 (by rfl) i0 Tryd.underlying22 hi0 hz0 hz1 hz2 7 T2 (.slice ai ni ci) acc (by rfl) (HS2.out.ow.below ((Below.refl _ _).alloc (Nat.le_refl _) _)) (some ⟨w2.heap.size, 0, none⟩) 1 1 [(yk, (s9 : Int), yd, yv)] (by rfl) (by rfl) (by simp) isE_new10 (by show acc.length + 1 ≤ 2932031007402; omega) ?_; intro a9 c9 T9 w9 hown9 hgo9 _; have HOM9 : Hid (OwnB 0 T9 w9 (.slice am nm cm) A.1) := Qb.hid ((HOM.out.below ((Below.refl _ _).alloc (Nat.le_refl _) _)).goes hgo9 (by omega)); have HS9 : Hid (Mq w M (f 13) (f 14) (f 15) A.2.2 S.laid (acc ++ [(yk, (s9 : Int), yd, yv)]) (.slice ab nb cb) (.slice a9 (acc.length + 1) c9) T9 w9) := Qb.hid ((HS2.out.below ((Below.refl _ _).alloc (Nat.le_refl _) _)).es hgo9 hown9); simp only [List.length_cons, List.length_nil, Nat.zero_add]; clear hown9 hgo9))
          | (at_builtin; go_loud (refine wpList_app8n NB _ (by rfl) (.tmp 44) (.tmp 45) (by rfl) 6 T9 _ S.laid (by rfl) HS9.out.ob am nm cm A.1 (by rfl) (own_is HOM9.out).1 (own_is HOM9.out).2.2 (own_is HOM9.out).2.1 (by omega) HNB2.out ?_; intro a10 c10 T10 w10 ho10 hg10; have HS10 := Qb.hid (HS9.out.lb hg10 ho10); clear ho10 hg10)))
        go_roundw
        case rel => exact ⟨k + 1, a10, a9, NB, acc.length + 1, c10, c9, A.2.2, by omega, by have := HNI.out; omega, rfl, rfl, by go_num, by rw [HMT.out, HLA.out]; exact ⟨by simp, by rw [HNB2.out, List.length_append], HMI.out, T10, HS10.out⟩⟩
        case measure => simp [intOf]; omega
    · obtain rfl : k = n := by omega
      obtain ⟨hni, hnb, hmi, T, hst⟩ := HK.out
      have hln := HL.out.2.1
      rw [List.take_of_length_le (by omega)] at hni hmi hst
      have hml := (mds_all l).2.2
      have hnl2 : (mds l).length ≤ 100000 := by omega
      obtain ⟨hb1, hmn, hbe⟩ := hmi.bnd hnl2
      have HEND : Hid (Calls Tryd.prog 21 #[.pointer (some ⟨M, 0, none⟩)] wr fun e w' => MkIs 10 T wr M (f 13) (f 14) (f 15) (tend (f 14) (f 15) S) e w') := tend_any 10 T wr M (f 13) (f 14) (f 15) S hst.ma hst.hi (by omega) (HT.out.below hst.bl HT.out.lt) (hst.fr 0 HT.out.lt) hb1 hbe HR.out HBT.out
      have HST := Qb.hid hst
      by_cases hem : mds l = []
      · have hS0 : S.mt.n = 0 := by rw [hmn, hem]; rfl
        have hta : tend (f 14) (f 15) S = ([], 101, S) := by unfold tend; rw [if_neg (by rw [hmi.laid]; simp), if_pos hS0]
        rw [hta] at HEND
        rw [hem] at hni
        have hni0 : ni = 0 := hni
        subst hni0
        obtain ⟨m, hm⟩ : ∃ m, S.mt = m := ⟨_, rfl⟩
        have HADD2 : Hid (Calls Tryd.prog 21 #[.pointer (some ⟨M, 0, none⟩)] wr fun e w' => ∃ am cm T', e = .returned (.tuple #[.slice am 0 cm, .int .i64 101]) ∧ Mq w M (f 13) (f 14) (f 15) S S.laid (mds l) (.slice ab nb cb) (.slice ai 0 ci) T' w') := HEND.out.mono fun e w' h => by
          obtain ⟨T', v, rfl, ho, _, hm, hg⟩ := h
          obtain ⟨am, cm, nm, hnm, rfl, _, _⟩ := own0_form ho
          have : nm = 0 := hnm
          subst this
          exact ⟨am, cm, T', rfl, HST.out.add hg hm⟩
        have HEM := Qb.hid hem
        clear HEND hta hmi hst hb1 hbe hS0 hmn HK hem hni hnb
        go_wp2_with (first
          | (go_at_call 21; go_loud (refine HADD2.out.mono ?_; rintro e w2 ⟨am, cm, T2, rfl, h2⟩; have HS2 := Qb.hid h2; clear h2))
          | (go_at_call 11; go_loud (refine (Tbl.num_any _ _).mono ?_; rintro e w4 ⟨rfl, hw⟩; have hw2 := hw.symm; clear hw; subst hw2))
          | (go_at_call 22; go_loud (refine (meta_x HS2.out.ma m hm).mono ?_; rintro e w3 ⟨rfl, hb3⟩; have HS3 := Qb.hid (HS2.out.below hb3); have z0 := cell_of HS3.out.bx 0; have z1 := cell_of HS3.out.bx 1; have z2 := cell_of HS3.out.bx 2; have z3 := cell_of HS3.out.bx 3; have z4 := cell_of HS3.out.bx 4; have z5 := cell_of HS3.out.bx 5; simp only [List.getElem?_toArray, List.getElem?_cons_zero, List.getElem?_cons_succ] at z0 z1 z2 z3 z4 z5; have v0 := froz_of HS3.out.bx 0; have v1 := froz_of HS3.out.bx 1; have v2 := froz_of HS3.out.bx 2; have v3 := froz_of HS3.out.bx 3; have v4 := froz_of HS3.out.bx 4; have v5 := froz_of HS3.out.bx 5; clear hb3)))
        refine bodyPost_ret (v := .tuple #[.slice none 0 0, .slice none 0 0, .agg #[.int .u64 0, .int .i64 m.wt, .int .i64 m.by_, .int .i64 (m.n : Int), .string m.lo, .string m.hi], .bool true]) ?_ rfl ?_
        · simp [results, Tryd.results8, go_sem, z0, z1, z2, z3, z4, z5, v0, v1, v2, v3, v4, v5]
        · exact md_none HS3.out HEM.out m
      · have hS0 : S.mt.n ≠ 0 := by rw [hmn]; intro h; exact hem (List.eq_nil_of_length_eq_zero h)
        have hta : tend (f 14) (f 15) S = ((whole (f 15) (lastS (f 14) S)).drop S.laid.length, 0, finS (lastS (f 14) S) ((whole (f 15) (lastS (f 14) S)).length : Int)) := by unfold tend; rw [if_neg (by rw [hmi.laid]; simp), if_neg hS0]
        rw [hta] at HEND
        have hpre := whole_pre (f 14) (f 15) S
        obtain ⟨css, c, hinv, hcc⟩ := hmi
        obtain ⟨css', hinv', hcc'⟩ := hinv.last (by rw [hcc]; exact hnl2)
        rw [hcc] at hcc'
        have hlen := whole_len hinv' (by rw [hcc']; exact hnl2)
        rw [hcc'] at hlen
        have HINV := Qb.hid hinv'
        generalize lastS (f 14) S = L at *
        obtain ⟨m, hm⟩ : ∃ m, (finS L ((whole (f 15) L).length : Int)).mt = m := ⟨_, rfl⟩
        obtain ⟨D, hD⟩ : ∃ D, (whole (f 15) L).drop S.laid.length = D := ⟨_, rfl⟩
        rw [hD] at HEND hpre
        have HADD2 : Hid (Calls Tryd.prog 21 #[.pointer (some ⟨M, 0, none⟩)] wr fun e w' => ∃ am nm cm T', e = .returned (.tuple #[.slice am nm cm, .int .i64 0]) ∧ OwnB 0 T' w' (.slice am nm cm) D ∧ Mq w M (f 13) (f 14) (f 15) (finS L ((whole (f 15) L).length : Int)) S.laid (mds l) (.slice ab nb cb) (.slice ai ni ci) T' w') := HEND.out.mono fun e w' h => by
          obtain ⟨T', v, rfl, ho, _, hm, hg⟩ := h
          obtain ⟨am, cm, nm, hnm, rfl, _, _⟩ := own0_form ho
          exact ⟨am, nm, cm, T', rfl, ho, HST.out.add hg hm⟩
        have HEM := Qb.hid hem
        have HNI := Qb.hid hni
        have hni0 : ¬ ni = 0 := by rw [hni]; intro h; exact hem (List.eq_nil_of_length_eq_zero h)
        have hnii : ¬ (ni : Int) = 0 := by omega
        obtain ⟨NW, hNW⟩ : ∃ N, N = (whole (f 15) L).length := ⟨_, rfl⟩
        have HNW := Qb.hid hNW
        have HPR := Qb.hid hpre
        have hsum : S.laid.length + D.length = NW := by rw [hNW, hpre, List.length_append]
        have hNWb : NW ≤ 100000000000 := by omega
        have HSM := Qb.hid hsum
        clear HEND hta hinv hinv' hst hb1 hbe hS0 hmn HK hem hni hnb hpre hD hNW hlen hni0
        go_wp2_with (first
          | (go_at_call 21; go_loud (refine HADD2.out.mono ?_; rintro e w2 ⟨am, nm, cm, T2, rfl, hom, h2⟩; have HS2 := Qb.hid h2; have HOM := Qb.hid hom; clear h2 hom))
          | (at_builtin; go_loud (refine wpList_app8n NW _ (by rfl) (.tmp 65) (.tmp 66) (by rfl) 6 T2 _ S.laid (by rfl) HS2.out.ob am nm cm D (by rfl) (own_is HOM.out).1 (own_is HOM.out).2.2 (own_is HOM.out).2.1 (by omega) HSM.out.symm ?_; intro a10 c10 T10 w10 ho10 hg10; rw [← HPR.out] at ho10; have HS10 := Qb.hid (HS2.out.lb hg10 ho10); clear ho10 hg10))
          | (go_at_call 11; go_loud (refine (Tbl.num_any _ _).mono ?_; rintro e w4 ⟨rfl, hw⟩; have hw2 := hw.symm; clear hw; subst hw2))
          | (go_at_call 22; go_loud (refine (meta_x HS10.out.ma m hm).mono ?_; rintro e w3 ⟨rfl, hb3⟩; have HS3 := Qb.hid (HS10.out.below hb3); have z0 := cell_of HS3.out.bx 0; have z1 := cell_of HS3.out.bx 1; have z2 := cell_of HS3.out.bx 2; have z3 := cell_of HS3.out.bx 3; have z4 := cell_of HS3.out.bx 4; have z5 := cell_of HS3.out.bx 5; simp only [List.getElem?_toArray, List.getElem?_cons_zero, List.getElem?_cons_succ] at z0 z1 z2 z3 z4 z5; have v0 := froz_of HS3.out.bx 0; have v1 := froz_of HS3.out.bx 1; have v2 := froz_of HS3.out.bx 2; have v3 := froz_of HS3.out.bx 3; have v4 := froz_of HS3.out.bx 4; have v5 := froz_of HS3.out.bx 5; clear hb3)))
        refine bodyPost_ret (v := .tuple #[.slice a10 NW c10, .slice ai ni ci, .agg #[.int .u64 0, .int .i64 m.wt, .int .i64 m.by_, .int .i64 (m.n : Int), .string m.lo, .string m.hi], .bool true]) ?_ rfl ?_
        · simp [results, Tryd.results8, go_sem, z0, z1, z2, z3, z4, z5, v0, v1, v2, v3, v4, v5]
        · exact md_some HS3.out HNW.out HNI.out HEM.out HINV.out hcc' m hm.symm

end Tbl
end Go.Proofs.YtnhhalabmmcemaaDoor
