import Derived.Test.YtfomnkkpiflokaaSo3
import Derived.Test.YtfomnkkpiflokaaUnd
namespace Go.Proofs.Ytfomnkkpiflokaa
namespace Sk
open Go.RowKit Laws Irw Erw KMath Skm Byt
set_option linter.unusedVariables false
set_option maxRecDepth 100000
set_option linter.unusedSimpArgs false

/-- two lists of entries that are alike -/
theorem sameEntries_true (a b : Option Addr) (ca cb n : Nat) (l : List En) (w : World) (ha : IsE w a l) (hb : IsE w b l) (hn : l.length = n) (hl : n ≤ 2932031007402) :
    Calls Try.prog 23 #[.slice a n ca, .slice b n cb] w fun e w' => e = .returned (.bool true) ∧ ∃ n, w' = w.drewN n := by
  have HA : Hid (IsE w a l) := ha
  have HB : Hid (IsE w b l) := hb
  have HNN : Hid (l.length = n) := hn
  clear ha hb hn
  go_enter Try.func23, Try.ntmps23
  go_wp2
  go_loopw [5] (fun i wr => ∃ k m : Nat, k ≤ n ∧ i = .int .i64 k ∧ wr = w.drewN m) (fun i _ => n - (intOf i).toNat)
  case atStart => exact ⟨0, 0, Nat.zero_le _, rfl, rfl⟩
  case round =>
    obtain ⟨k, m, hk, rfl, rfl⟩ := hrel
    by_cases hlt : k < n
    · have hlt' : k < l.length := by rw [HNN.out]; exact hlt
      obtain ⟨b1, o1, rfl, _, x0, x1, x2, x3⟩ := SkipOrder.rd HA.out hlt'
      obtain ⟨b2, o2, rfl, _, y0, y1, y2, y3⟩ := SkipOrder.rd HB.out hlt'
      have q1 : (k : Int) < (n : Int) := by omega
      generalize l.getD k ez = y at *
      obtain ⟨yk, ys, yd, yv⟩ := y
      dsimp only at x0 x1 x2 x3 y0 y1 y2 y3
      clear hlt'
      go_wp2
      go_quiet (fail)
      go_wp2
      go_roundw
      case rel => exact ⟨k + 1, _, by omega, by go_num, rfl⟩
      case measure => simp [intOf]; omega
    · go_wp2
      go_ret
      exact ⟨rfl, _, rfl⟩
theorem towers_any {t : Nat} {T : Nat → Nat} {w : World} {L : Nat} {ds : List Nat} {ns : List Nd} (h : Sl t T w L ds ns) {n : Nat} (hn : ns.length = n) (hl : n ≤ 3000000000000) :
    Calls Try.prog 22 #[.pointer (some ⟨L, 0, none⟩)] w fun e w' => ∃ g, e = .returned (.slice (some ⟨g, 0, none⟩) n n) ∧ Below w.heap.size w w' ∧ IRow w' g 0 (ns.map fun n => (n.h : Int)) := by
  have h1 := callsIn_wide.1 (towers_in L ns w h.lt h.tow h.chain h.cnt h.hts (by omega))
  rw [hn] at h1
  exact h1.mono fun e w' ⟨g, h2, _, h3, h4⟩ => ⟨g, h2, h3, h4⟩

theorem ltE_ne {a b : En} (h : ltE a b) : cmpE a.1 b.1 a.2.1 b.2.1 ≠ 0 := by unfold ltE at h; omega
theorem cmpE_ne_symm {a b : En} (h : cmpE a.1 b.1 a.2.1 b.2.1 ≠ 0) : cmpE b.1 a.1 b.2.1 a.2.1 ≠ 0 := by
  intro h0
  apply h
  rw [cmpE_zero_iff] at h0 ⊢
  exact ⟨h0.1.symm, h0.2.symm⟩
/-- what was taken stands at unlike places -/
theorem MadeIs.apart {ds : List Nat} {done : List En} {ns : List Nd} {ins : List En} (h : MadeIs ds done ns ins) (hs : ns.Pairwise (fun a b => ltE a.e b.e)) : ins.Pairwise (fun a b => cmpE a.1 b.1 a.2.1 b.2.1 ≠ 0) := by
  have h1 : (ns.map Nd.e).Pairwise (fun a b => cmpE a.1 b.1 a.2.1 b.2.1 ≠ 0) := List.pairwise_map.2 (hs.imp fun h => ltE_ne h)
  exact (h.perm.pairwise_iff (fun h => cmpE_ne_symm h)).1 h1
/-- where an entry stands, its tower is the draw's -/
theorem MadeIs.height {ds : List Nat} {done : List En} {ns : List Nd} {ins : List En} (h : MadeIs ds done ns ins) (hs : ns.Pairwise (fun a b => ltE a.e b.e)) {i j : Nat} (hj : j < ns.length) (hi : i < ins.length) (he : (ns.map Nd.e).getD j ez = ins.getD i ez) : (ns.map fun n => (n.h : Int)).getD j 0 = (hgt ds i : Int) := by
  have ei : ins.getD i ez = ins[i] := by simp [hi]
  have ej : (ns.map Nd.e).getD j ez = ns[j].e := by simp [hj]
  obtain ⟨nd, h1, h2, h3⟩ := h.hts i ins[i] (by simp [hi])
  obtain ⟨k, hk, rfl⟩ := List.getElem_of_mem h1
  have hkj : k = j := by
    rcases Nat.lt_trichotomy k j with hl | hl | hl
    · have h4 := List.pairwise_iff_getElem.1 hs k j hk hj hl
      rw [h2, ← ei, ← he, ej] at h4
      exact absurd h4 (not_lt_at rfl rfl)
    · exact hl
    · have h4 := List.pairwise_iff_getElem.1 hs j k hj hk hl
      rw [h2, ← ei, ← he, ej] at h4
      exact absurd h4 (not_lt_at rfl rfl)
  subst hkj
  have e3 : (ns.map fun n => (n.h : Int)).getD k 0 = (ns[k].h : Int) := by simp [hk]
  rw [e3, h3]
/-- put in from the other end it is the same list -/
theorem same_list {ds ds2 : List Nat} {done : List En} {ns ns2 : List Nd} {ins : List En} (h : MadeIs ds done ns ins) (hs : ns.Pairwise (fun a b => ltE a.e b.e)) (h2 : MadeIs ds2 ins.reverse ns2 ins.reverse) (hs2 : ns2.Pairwise (fun a b => ltE a.e b.e)) : ns2.map Nd.e = ns.map Nd.e :=
  eq_sorted ltE_asym ((h2.perm.trans ins.reverse_perm).trans h.perm.symm) (List.pairwise_map.2 hs2) (List.pairwise_map.2 hs)

/-- what stands while the second list is made -/
structure Tw (w0 : World) (T : Nat → Nat) (w : World) (L L2 : Nat) (ds ds2 : List Nat) (ns ns2 : List Nd) (v : Value) (ins : List En) (k : Nat) : Prop where
  m1 : Mk w0 T w L ds ns v ins
  sl2 : Sl 3 T w L2 ds2 ns2
  mi2 : MadeIs ds2 (ins.reverse.take k) ns2 (ins.reverse.take k)
theorem Tw.below {w0 : World} {T : Nat → Nat} {w w' : World} {L L2 : Nat} {ds ds2 : List Nat} {ns ns2 : List Nd} {v : Value} {ins : List En} {k : Nat} (h : Tw w0 T w L L2 ds ds2 ns ns2 v ins k) (hb : Below w.heap.size w w') : Tw w0 T w' L L2 ds ds2 ns ns2 v ins k := ⟨h.m1.below hb, h.sl2.below hb, h.mi2⟩
theorem Tw.put {w0 : World} {T : Nat → Nat} {w w' : World} {L L2 : Nat} {ds ds2 : List Nat} {ns ns2 : List Nd} {v : Value} {ins : List En} {k : Nat} (h : Tw w0 T w L L2 ds ds2 ns ns2 v ins k) (ha : ins.Pairwise (fun a b => cmpE a.1 b.1 a.2.1 b.2.1 ≠ 0)) (hk : k < ins.length) {ok : Bool} (hp : PutAns 3 T w L2 ds2 ns2 (ins.getD (ins.length - 1 - k) ez) ok w') : ok = true ∧ ∃ T' ns2', Tw w0 T' w' L L2 ds ds2 ns ns2' v ins (k + 1) := by
  obtain ⟨T', ns2', k1, k2, k3⟩ := hp
  have hkr : k < ins.reverse.length := by simpa using hk
  have e1 : ins.getD (ins.length - 1 - k) ez = ins.reverse[k] := by
    rw [List.getElem_reverse]
    have : ins.length - 1 - k < ins.length := by omega
    simp [this]
  have ha2 : ins.reverse.Pairwise (fun a b => cmpE a.1 b.1 a.2.1 b.2.1 ≠ 0) := List.pairwise_reverse.2 (ha.imp fun h => cmpE_ne_symm h)
  rw [e1] at k3
  have hn : ∀ x ∈ ins.reverse.take k, cmpE x.1 (ins.reverse[k]).1 x.2.1 (ins.reverse[k]).2.1 ≠ 0 := by
    intro x hx
    obtain ⟨j, hj, rfl⟩ := List.getElem_of_mem hx
    rw [List.length_take] at hj
    rw [List.getElem_take]
    exact List.pairwise_iff_getElem.1 ha2 j k (by omega) hkr (by omega)
  obtain ⟨rfl, h2⟩ := put_ok h.mi2 k3 hn
  have e2 : ins.reverse.take k ++ [ins.reverse[k]] = ins.reverse.take (k + 1) := (List.take_succ_eq_append_getElem hkr).symm
  rw [e2] at h2
  exact ⟨rfl, T', ns2', ⟨h.m1.sl.goes k2 (by omega) (by omega), h.m1.own.goes k2 (by omega), h.m1.old.goes k2 (by omega)⟩, k1, h2⟩
end Sk
end Go.Proofs.Ytfomnkkpiflokaa
