import Derived.Test.YtdflepndhemfgaaGreatDoorSk7
import Derived.RangeFuncWrites
namespace Go.Proofs.YtdflepndhemfgaaGreatDoor
namespace Sk
open Go.RowKit Go.Shelf Laws Irw Erw KMath Skm Byt
set_option linter.unusedVariables false
set_option maxRecDepth 100000
set_option linter.unusedSimpArgs false
attribute [local go_sem] Oper.semAt_some

theorem from_any (L : Nat) (k : ByteArray) (s : Int) (w : World) :
    Calls Tryz.prog 10 #[.pointer (some ⟨L, 0, none⟩), .string k, .int .u64 s] w fun e w' => e = .returned (.func (.func 41) #[] #[.pointer (some ⟨w.heap.size, 0, none⟩), .pointer (some ⟨w.heap.size + 1, 0, none⟩), .pointer (some ⟨w.heap.size + 2, 0, none⟩)]) ∧ w' = ((w.alloc (.cells #[.pointer (some ⟨L, 0, none⟩)] 25)).alloc (.cells #[.string k] 9)).alloc (.cells #[.int .u64 s] 57) := by
  go_enter Tryz.func10, Tryz.ntmps10
  go_wp2
  go_ret
  exact ⟨rfl, rfl⟩

theorem lev0 {ns : List Nd} (h : ∀ n ∈ ns, 1 ≤ n.h) : lev 0 ns = ns := by
  unfold lev
  rw [List.filter_eq_self]
  intro n hn
  have := h n hn
  simp; omega
/-- The lists of a walk: the list as it lies, cut at a place. -/
structure Wk (W : World) (L : Nat) (k : ByteArray) (s : Int) (ns pre post : List Nd) : Prop where
  lt : L < W.heap.size
  tow : Tow W L 12 ns
  chain : Chain W ns
  hts : ∀ n ∈ ns, 1 ≤ n.h ∧ n.h ≤ 12
  cut : ns = pre ++ post
  hpre : ∀ n ∈ pre, aheadB k s n = true
  hpost : ∀ n ∈ post, aheadB k s n = false
theorem Wk.keep {W W' : World} {L : Nat} {k : ByteArray} {s : Int} {ns pre post : List Nd} (h : Wk W L k s ns pre post) (hs : W.heap.size ≤ W'.heap.size) (hL : W'.heap[L]? = W.heap[L]?) (hn : ∀ n ∈ ns, W'.heap[n.b]? = W.heap[n.b]?) : Wk W' L k s ns pre post :=
  ⟨Nat.lt_of_lt_of_le h.lt hs, h.tow.keep hL, h.chain.keep hn, h.hts, h.cut, h.hpre, h.hpost⟩
theorem Wk.under {W W' : World} {L : Nat} {k : ByteArray} {s : Int} {ns pre post : List Nd} (h : Wk W L k s ns pre post) (hb : Below W.heap.size W W') : Wk W' L k s ns pre post := h.keep hb.size (hb.block L h.lt) fun n hn => hb.block _ (h.chain.lt hn)
theorem Wk.of {t : Nat} {T : Nat → Nat} {w : World} {L : Nat} {ds : List Nat} {ns : List Nd} (h : Sl t T w L ds ns) (k : ByteArray) (s : Int) : ∃ pre post, Wk w L k s ns pre post := by
  obtain ⟨pre, post, h1, h2, h3⟩ := split_at k s ns h.sorted
  exact ⟨pre, post, h.lt, h.tow, h.chain, h.hts, h1, h2, h3⟩
theorem Wk.ahead {W : World} {L : Nat} {k : ByteArray} {s : Int} {ns pre post : List Nd} (h : Wk W L k s ns pre post) (d : Bool) (v : ByteArray) :
    Calls Tryz.prog 42 #[.pointer (some ⟨L, 0, none⟩), .agg #[.string k, .int .u64 s, .bool d, .string v]] W fun e w' => e = .returned (lastV L pre) ∧ Below W.heap.size W w' :=
  callsIn_wide.1 (ahead_in L k s d v W ns pre post h.cut h.hpre h.hpost (fun n hn => (h.hts n hn).2) h.lt h.tow h.chain)
/-- the station before the place, and what is behind it -/
theorem Wk.st {W : World} {L : Nat} {k : ByteArray} {s : Int} {ns pre post : List Nd} (h : Wk W L k s ns pre post) : ∃ sh, 0 < sh ∧ Tow W (lst L 0 pre) sh post ∧ lst L 0 pre < W.heap.size ∧ ∃ z, ns = z ++ post := by
  obtain ⟨y, hy, h1⟩ := lst_at L 0 pre
  rcases h1 with ⟨h2, rfl⟩ | ⟨x, n, rfl, h2, h3⟩
  · have hy0 : y = [] := by
      cases y with
      | nil => rfl
      | cons n y =>
        have h4 := hy n List.mem_cons_self
        have := (h.hts n (by rw [h.cut]; simp)).1
        omega
    subst hy0
    rw [h2]
    refine ⟨12, by omega, ?_, h.lt, [], by rw [h.cut]⟩
    have := h.tow
    rw [h.cut] at this
    simpa using this
  · have hy0 : y = [] := by
      cases y with
      | nil => rfl
      | cons m y =>
        have h4 := hy m List.mem_cons_self
        have := (h.hts m (by rw [h.cut]; simp)).1
        omega
    subst hy0
    have hx : ns = x ++ n :: post := by rw [h.cut]; simp
    rw [h2]
    exact ⟨n.h, h3, (h.chain _ _ _ hx).tow, h.chain.lt (by rw [hx]; simp), x ++ [n], by rw [hx]; simp⟩
end Sk
end Go.Proofs.YtdflepndhemfgaaGreatDoor
