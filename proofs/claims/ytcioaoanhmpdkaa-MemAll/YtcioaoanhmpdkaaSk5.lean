import Derived.Test.YtcioaoanhmpdkaaSk4
import Derived.Test.YtcioaoanhmpdkaaByt
import Derived.Deep.QuietTactic
import Derived.BigQuiet
namespace Go.Proofs.Ytcioaoanhmpdkaa
namespace Sk
open Go.RowKit Laws Irw Erw KMath Skm Byt
set_option linter.unusedVariables false
set_option maxRecDepth 100000
set_option linter.unusedSimpArgs false

/-- the height of the entry that comes as number m -/
def hgt (ds : List Nat) (m : Nat) : Nat := if ds = [] then 1 else 1 + ds.getD (m % ds.length) 0 % 12
theorem hgt_in (ds : List Nat) (m : Nat) : 1 ≤ hgt ds m ∧ hgt ds m ≤ 12 := by
  unfold hgt
  split
  · omega
  · have := Nat.mod_lt (ds.getD (m % ds.length) 0) (show 0 < 12 by omega)
    omega
def ltE (a b : En) : Prop := cmpE a.1 b.1 a.2.1 b.2.1 < 0
/-- A skip list as it lies: tag t: itself and its nodes; t + 1: its draws. -/
structure Sl (t : Nat) (T : Nat → Nat) (w : World) (L : Nat) (ds : List Nat) (ns : List Nd) : Prop where
  tag : T L = t
  lt : L < w.heap.size
  tow : Tow w L 12 ns
  chain : Chain w ns
  dra : ∃ a c, w.cell? ⟨L, 17, none⟩ = some (.slice a ds.length c) ∧ IsB w a ds ∧ ∀ ad, a = some ad → T ad.block = t + 1 ∧ ad.block < w.heap.size
  cnt : w.cell? ⟨L, 18, none⟩ = some (.int .i64 (ns.length : Int))
  tags : ∀ n ∈ ns, T n.b = t
  nod : (L :: ns.map Nd.b).Nodup
  hts : ∀ n ∈ ns, 1 ≤ n.h ∧ n.h ≤ 12
  sorted : ns.Pairwise (fun a b => ltE a.e b.e)
  frL : ∀ j, w.frozen? ⟨L, j, none⟩ = false
  frN : ∀ n ∈ ns, ∀ j, w.frozen? ⟨n.b, j, none⟩ = false
theorem IsB.keep' {w w' : World} {a : Option Addr} {l : List Nat} (h : IsB w a l) (hb : ∀ ad, a = some ad → w'.heap[ad.block]? = w.heap[ad.block]?) (hs : w.heap.size ≤ w'.heap.size) : IsB w' a l := by
  refine ⟨fun hne => ?_, h.2⟩
  obtain ⟨b, off, e, hr⟩ := h.1 hne
  exact ⟨b, off, e, hr.keep (hb _ e) hs⟩
theorem Sl.goes {t : Nat} {u : Nat → Prop} {T T' : Nat → Nat} {w w' : World} {L : Nat} {ds : List Nat} {ns : List Nd} (h : Sl t T w L ds ns) (hg : Goes u T w T' w') (h1 : ¬ u t) (h2 : ¬ u (t + 1)) : Sl t T' w' L ds ns := by
  have e1 : ¬ u (T L) := by rw [h.tag]; exact h1
  have hbL := hg.block L h.lt e1
  have hn : ∀ n ∈ ns, w'.heap[n.b]? = w.heap[n.b]? := fun n hm => hg.block _ (h.chain.lt hm) (by rw [h.tags n hm]; exact h1)
  obtain ⟨a, c, d1, d2, d3⟩ := h.dra
  refine ⟨(hg.tag L h.lt e1).trans h.tag, Nat.lt_of_lt_of_le h.lt hg.size, h.tow.keep hbL, h.chain.keep hn, ⟨a, c, (World.cell?_of_block (a := ⟨L, 17, none⟩) hbL).trans d1, IsB.keep' d2 (fun ad e => hg.block _ (d3 ad e).2 (by rw [(d3 ad e).1]; exact h2)) hg.size, fun ad e => ⟨(hg.tag _ (d3 ad e).2 (by rw [(d3 ad e).1]; exact h2)).trans (d3 ad e).1, Nat.lt_of_lt_of_le (d3 ad e).2 hg.size⟩⟩, (World.cell?_of_block (a := ⟨L, 18, none⟩) hbL).trans h.cnt, fun n hm => (hg.tag _ (h.chain.lt hm) (by rw [h.tags n hm]; exact h1)).trans (h.tags n hm), h.nod, h.hts, h.sorted, fun j => (World.frozen?_of_block (a := ⟨L, j, none⟩) hbL).trans (h.frL j), fun n hm j => (World.frozen?_of_block (a := ⟨n.b, j, none⟩) (hn n hm)).trans (h.frN n hm j)⟩
theorem Sl.below {t : Nat} {T : Nat → Nat} {w w' : World} {L : Nat} {ds : List Nat} {ns : List Nd} (h : Sl t T w L ds ns) (hb : Below w.heap.size w w') : Sl t T w' L ds ns := h.goes (Goes.below (t := fun _ => False) hb) (fun z => z) (fun z => z)


set_option maxHeartbeats 1000000 in
theorem height_any (t : Nat) (T : Nat → Nat) (w : World) (L : Nat) (ds : List Nat) (ns : List Nd) (h : Sl t T w L ds ns) (hlen : ds.length ≤ 9223372036854775807) (hn : ns.length ≤ 3000000000000) :
    Calls Try.prog 99 #[.pointer (some ⟨L, 0, none⟩)] w fun e w' => e = .returned (.int .i64 (hgt ds ns.length : Int)) ∧ ∃ n, w' = w.drewN n := by
  obtain ⟨a, c, hc, hi, _⟩ := h.dra
  have hcn := h.cnt
  clear h
  by_cases h0 : ds = []
  · subst h0
    have HH : Hid (hgt [] ns.length = 1) := by unfold hgt; rfl
    go_enter Try.func99, Try.ntmps99
    go_wp2
    go_ret
    exact ⟨by rw [HH.out]; rfl, 0, rfl⟩
  · obtain ⟨b, off, rfl, hr⟩ := hi.1 h0
    have hp : 0 < ds.length := List.length_pos_iff.2 h0
    have hm := Nat.mod_lt ns.length hp
    have c0 : w.cell? ⟨b, off + ns.length % ds.length, none⟩ = some (.int .u8 ((ds.getD (ns.length % ds.length) 0 : Nat) : Int)) := hr.2 _ _ (by simp [hm])
    have hb : ds.getD (ns.length % ds.length) 0 < 256 := by
      have : ds.getD (ns.length % ds.length) 0 ∈ ds := by simp [hm]
      exact hi.2 _ this
    have HH : Hid (hgt ds ns.length = 1 + ds.getD (ns.length % ds.length) 0 % 12) := by
      show hgt ds ns.length = _
      unfold hgt; rw [if_neg h0]
    obtain ⟨N, hN⟩ : ∃ N, ns.length = N := ⟨_, rfl⟩
    obtain ⟨M, hM⟩ : ∃ M, ds.length = M := ⟨_, rfl⟩
    rw [hN, hM] at c0 HH
    rw [hN] at hcn hn hb ⊢
    rw [hM] at hc hlen hp hb
    have hm2 : N % M < M := Nat.mod_lt _ hp
    clear hm hN hM hi hr
    generalize ds.getD (N % M) 0 = x at *
    have t1 : Int.tmod (N : Int) (M : Int) = ((N % M : Nat) : Int) := by rw [Int.tmod_eq_emod_of_nonneg (by omega)]; omega
    have t2 : Int.tmod (x : Int) 12 = ((x % 12 : Nat) : Int) := by rw [Int.tmod_eq_emod_of_nonneg (by omega)]; omega
    have t3 : (x : Int) % 12 = ((x % 12 : Nat) : Int) := by omega
    have q7 : ¬ M = 0 := by omega
    have q9 : x % 12 < 12 := Nat.mod_lt _ (by omega)
    generalize x % 12 = y at *
    generalize N % M = z at *
    have q3 : (z : Int) < (M : Int) := by omega
    have q4 : (x : Int) < 256 := by omega
    have q8 : (y : Int) < 12 := by omega
    clear hp hlen hm2 h0 hn
    go_enter Try.func99, Try.ntmps99
    go_wp2
    go_quiet (fail)
    go_wp2
    go_ret
    exact ⟨by rw [HH.out]; rfl, _, rfl⟩
end Sk
end Go.Proofs.Ytcioaoanhmpdkaa
