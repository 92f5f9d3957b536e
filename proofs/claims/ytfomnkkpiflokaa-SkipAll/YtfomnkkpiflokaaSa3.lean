import Derived.Test.YtfomnkkpiflokaaSa0
namespace Go.Proofs.Ytfomnkkpiflokaa
namespace Sk
open Go.RowKit Laws Irw Erw KMath Skm Byt Rom
set_option linter.unusedVariables false
set_option maxRecDepth 100000
set_option linter.unusedSimpArgs false

/-- what doesn't change in the script's loop -/
structure Fix where
  R0 : Nat
  g1 : Nat
  n1 : Nat
  c1 : Nat
  g2 : Nat
  n2 : Nat
  c2 : Nat
  v0 : Value
  v1 : Value
  La : Nat
  Ra : Nat
  Lb : Nat
  Rb : Nat
  A : Nat
  Bx : Nat
  da : List Nat
  db : List Nat
  x2 : List Nat
/-- what stands in the script's loop -/
structure Sc (w0 : World) (F : Fix) (T : Nat → Nat) (W : World) (na nb : List Nd) (ba bb : List Nat) (kv : Value) (ks : List Lt) (q : Nat) : Prop where
  sa : Sa w0 T W F.R0 F.g1 F.n1 F.c1 F.g2 F.n2 F.c2 F.v0 F.v1 F.La F.Ra F.Lb F.Rb F.A F.Bx F.da F.db na nb ba bb F.x2
  kp : OwnK T W kv ks
  ok : ∀ k ∈ ks, LtOk T W F.La F.Ra F.Lb F.Rb k
  la : na.length ≤ q
  lb : nb.length ≤ q
  lk : ks.length ≤ q
theorem Sc.below {w0 : World} {F : Fix} {T : Nat → Nat} {W W' : World} {na nb : List Nd} {ba bb : List Nat} {kv : Value} {ks : List Lt} {q : Nat} (h : Sc w0 F T W na nb ba bb kv ks q) (hb : Below W.heap.size W W') : Sc w0 F T W' na nb ba bb kv ks q :=
  ⟨h.sa.below hb, h.kp.goes (Goes.below (t := fun _ => False) hb) (fun z => z), fun k hk => (h.ok k hk).goes (Goes.below (t := fun _ => False) hb) (fun z => z), h.la, h.lb, h.lk⟩
theorem Sc.more {w0 : World} {F : Fix} {T : Nat → Nat} {W : World} {na nb : List Nd} {ba bb : List Nat} {kv : Value} {ks : List Lt} {q : Nat} (h : Sc w0 F T W na nb ba bb kv ks q) : Sc w0 F T W na nb ba bb kv ks (q + 1) :=
  ⟨h.sa, h.kp, h.ok, by have := h.la; omega, by have := h.lb; omega, by have := h.lk; omega⟩
/-- a call of the first list -/
theorem Sc.playA {w0 : World} {F : Fix} {T : Nat → Nat} {W W' : World} {na nb : List Nd} {ba bb : List Nat} {kv : Value} {ks : List Lt} {q : Nat} (h : Sc w0 F T W na nb ba bb kv ks q) (hp : PlayAns 1 5 T W F.La F.Ra F.da na W') : ∃ T' na' ba', Sc w0 F T' W' na' nb ba' bb kv (ks) (q + 1) ∧ (∀ b, T b = 0 → b < W.heap.size → W'.heap[b]? = W.heap[b]?) ∧ (∀ b, T b = 0 → b < W.heap.size → T' b = 0) := by
  obtain ⟨T', na', ba', k1, k2, k3⟩ := hp
  refine ⟨T', na', ba', ⟨h.sa.step k2 (by omega) (by omega) k1 (h.sa.pb.goes k2 (by omega) (by omega) (by omega)), h.kp.goes k2 (by omega), fun k hk => (h.ok k hk).goes k2 (by omega), by have := h.la; omega, by have := h.lb; omega, by have := h.lk; omega⟩, fun b hb hl => k2.block b hl (by rw [hb]; omega), fun b hb hl => (k2.tag b hl (by rw [hb]; omega)).trans hb⟩
/-- a call of the second -/
theorem Sc.playB {w0 : World} {F : Fix} {T : Nat → Nat} {W W' : World} {na nb : List Nd} {ba bb : List Nat} {kv : Value} {ks : List Lt} {q : Nat} (h : Sc w0 F T W na nb ba bb kv ks q) (hp : PlayAns 3 6 T W F.Lb F.Rb F.db nb W') : ∃ T' nb' bb', Sc w0 F T' W' na nb' ba bb' kv (ks) (q + 1) ∧ (∀ b, T b = 0 → b < W.heap.size → W'.heap[b]? = W.heap[b]?) ∧ (∀ b, T b = 0 → b < W.heap.size → T' b = 0) := by
  obtain ⟨T', nb', bb', k1, k2, k3⟩ := hp
  refine ⟨T', nb', bb', ⟨h.sa.step k2 (by omega) (by omega) (h.sa.pa.goes k2 (by omega) (by omega) (by omega)) k1, h.kp.goes k2 (by omega), fun k hk => (h.ok k hk).goes k2 (by omega), by have := h.la; omega, by have := h.lb; omega, by have := h.lk; omega⟩, fun b hb hl => k2.block b hl (by rw [hb]; omega), fun b hb hl => (k2.tag b hl (by rw [hb]; omega)).trans hb⟩
/-- an iterator is kept -/
theorem Sc.keep {w0 : World} {F : Fix} {T T' : Nat → Nat} {W W' : World} {na nb : List Nd} {ba bb : List Nat} {kv kv' : Value} {ks : List Lt} {q : Nat} {k : Lt} (h : Sc w0 F T W na nb ba bb kv ks q) (hg : Goes (· = 9) T W T' W') (ho : OwnK T' W' kv' (ks ++ [k])) (hk : LtOk T W F.La F.Ra F.Lb F.Rb k) (hq : ks.length + 1 ≤ q) : Sc w0 F T' W' na nb ba bb kv' (ks ++ [k]) q := by
  refine ⟨h.sa.step hg (by omega) (by omega) (h.sa.pa.goes hg (by omega) (by omega) (by omega)) (h.sa.pb.goes hg (by omega) (by omega) (by omega)), ho, fun x hx => ?_, h.la, h.lb, by simp; omega⟩
  rcases List.mem_append.1 hx with hx | hx
  · exact (h.ok x hx).goes hg (by omega)
  · rw [List.mem_singleton.1 hx]; exact hk.goes hg (by omega)
/-- a kept one is gone through -/
theorem Sc.now {w0 : World} {F : Fix} {T : Nat → Nat} {W : World} {na nb : List Nd} {ba bb : List Nat} {kv : Value} {ks : List Lt} {q : Nat} (h : Sc w0 F T W na nb ba bb kv ks q) (hq : q ≤ 1954687338268) {k : Lt} (hk : k ∈ ks) {W' : World} (hb : Below W.heap.size W W') :
    Calls Try.prog 14 #[.agg #[k.fv, .pointer (some ⟨k.L, 0, none⟩), .pointer (some ⟨k.R, 0, none⟩), .string k.e.1, .int .u64 k.e.2.1, .bool k.e.2.2.1, .string k.e.2.2.2]] W' fun e w' => e = .returned (.bool true) ∧ Below W'.heap.size W' w' := by
  have h' := h.below hb
  have ho := h'.ok k hk
  have h1 := h.la
  have h2 := h.lb
  rcases ho.of with ⟨e1, e2⟩ | ⟨e1, e2⟩
  · have hc := ho.cl
    rw [e1] at hc
    rw [e1, e2]
    exact now_any 1 5 T W' F.La F.Ra F.da na ba h'.sa.pa (by omega) k.bl k.bk k.bs k.e hc ho.ck ho.cs
  · have hc := ho.cl
    rw [e1] at hc
    rw [e1, e2]
    exact now_any 3 6 T W' F.Lb F.Rb F.db nb bb h'.sa.pb (by omega) k.bl k.bk k.bs k.e hc ho.ck ho.cs
/-- .. and where it lies -/
theorem Sc.late {w0 : World} {F : Fix} {T : Nat → Nat} {W : World} {na nb : List Nd} {ba bb : List Nat} {ka : Option Addr} {n kc : Nat} {ks : List Lt} {q : Nat} (h : Sc w0 F T W na nb ba bb (.slice ka n kc) ks q) {i : Nat} (hi : i < ks.length) : ∃ g k, ka = some ⟨g, 0, none⟩ ∧ k ∈ ks ∧ W.cell? ⟨g, i * 7, none⟩ = some k.fv ∧ W.cell? ⟨g, i * 7 + 1, none⟩ = some (.pointer (some ⟨k.L, 0, none⟩)) ∧ W.cell? ⟨g, i * 7 + 2, none⟩ = some (.pointer (some ⟨k.R, 0, none⟩)) ∧ W.cell? ⟨g, i * 7 + 3, none⟩ = some (.string k.e.1) ∧ W.cell? ⟨g, i * 7 + 4, none⟩ = some (.int .u64 k.e.2.1) ∧ W.cell? ⟨g, i * 7 + 5, none⟩ = some (.bool k.e.2.2.1) ∧ W.cell? ⟨g, i * 7 + 6, none⟩ = some (.string k.e.2.2.2) := by
  obtain ⟨g, e, hc⟩ := h.kp.cell (i := i) (k := ks[i]) (by simp [hi])
  exact ⟨g, ks[i], e, List.getElem_mem hi, hc 0 _ (by omega) rfl, hc 1 _ (by omega) rfl, hc 2 _ (by omega) rfl, hc 3 _ (by omega) rfl, hc 4 _ (by omega) rfl, hc 5 _ (by omega) rfl, hc 6 _ (by omega) rfl⟩

/-- the boxes of a new iterator -/
theorem lt_new {T : Nat → Nat} {w5 w6 : World} {La Ra Lb Rb L R : Nat} {e : En} (hw : w6 = ((w5.drew.alloc (.cells #[.pointer (some ⟨L, 0, none⟩)] 43)).alloc (.cells #[.string e.1] 9)).alloc (.cells #[.int .u64 e.2.1] 51)) (hz : ∀ b, w5.heap.size ≤ b → T b = 0) (hof : (L = La ∧ R = Ra) ∨ (L = Lb ∧ R = Rb)) : LtOk T w6 La Ra Lb Rb ⟨w5.heap.size, w5.heap.size + 1, w5.heap.size + 2, L, R, e⟩ := by
  have hd : w5.drew.heap.size = w5.heap.size := rfl
  refine ⟨?_, ?_, ?_, ⟨hz _ (Nat.le_refl _), hz _ (by show _ ≤ w5.heap.size + 1; omega), hz _ (by show _ ≤ w5.heap.size + 2; omega)⟩, hof⟩
  · show w6.cell? ⟨w5.drew.heap.size, 0, none⟩ = _
    rw [hw]
    generalize w5.drew = v
    rw [World.cell?_of_block (Below.heap_alloc _ _ _ (by simp <;> omega)), World.cell?_of_block (Below.heap_alloc _ _ _ (by simp <;> omega)), World.cell?_alloc_at _ _ _ _ rfl]; rfl
  · show w6.cell? ⟨w5.drew.heap.size + 1, 0, none⟩ = _
    rw [hw]
    generalize w5.drew = v
    rw [World.cell?_of_block (Below.heap_alloc _ _ _ (by simp <;> omega)), World.cell?_alloc_at _ _ _ _ (by simp)]; rfl
  · show w6.cell? ⟨w5.drew.heap.size + 2, 0, none⟩ = _
    rw [hw]
    generalize w5.drew = v
    rw [World.cell?_alloc_at _ _ _ _ (by simp)]; rfl
theorem late_news (w : World) (k : Lt) {t : TypeId} : ∀ j u, k.cells[j]? = some u → (w.alloc (.cells #[k.fv, .pointer (some ⟨k.L, 0, none⟩), .pointer (some ⟨k.R, 0, none⟩), .string k.e.1, .int .u64 k.e.2.1, .bool k.e.2.2.1, .string k.e.2.2.2] t)).cell? ⟨w.heap.size, j, none⟩ = some u := fun j u h => by
  rw [World.cell?_alloc_at _ _ _ _ rfl, ← Array.getElem?_toList]
  exact h
set_option maxHeartbeats 1000000 in
theorem place5 (a : Int) (n : Nat) (w : World) (h1 : -9223372036854775808 ≤ a) (h2 : a ≤ 9223372036854775807) (hn : 0 < n) (hn2 : n ≤ 1954687338268) :
    Calls Try.prog 13 #[.int .i64 a, .int .i64 (n : Int)] w fun e w' => ∃ p : Nat, e = .returned (.int .i64 (p : Int)) ∧ p < n ∧ w' = w := by
  have q0 : ¬ n = 0 := by omega
  have q1 : (0 : Int) < (n : Int) := by omega
  have q2 : (n : Int) ≤ 1954687338268 := by omega
  have HN : Hid (0 < n) := hn
  by_cases h0 : a < 0
  · obtain ⟨m, hm⟩ : ∃ m : Nat, -(a + 1) = (m : Int) := ⟨(-(a + 1)).toNat, by omega⟩
    have t1 : Int.tmod (m : Int) (n : Int) = ((m % n : Nat) : Int) := by rw [Int.tmod_eq_emod_of_nonneg (by omega)]; omega
    have HF : Hid (m % n < n) := Nat.mod_lt _ hn
    generalize m % n = p at *
    have q3 : IntKind.i64.wrap (a + 1) = a + 1 := IntWalk.i64_in _ (by omega)
    have q4 : IntKind.i64.wrap (-(a + 1)) = (m : Int) := by rw [IntWalk.i64_in _ (by omega)]; exact hm
    clear hn hn2 h1 h2 hm
    go_enter Try.func13, Try.ntmps13
    go_wp2
    go_ret
    exact ⟨p, rfl, HF.out, rfl⟩
  · obtain ⟨m, rfl⟩ : ∃ m : Nat, a = (m : Int) := ⟨a.toNat, by omega⟩
    have t1 : Int.tmod (m : Int) (n : Int) = ((m % n : Nat) : Int) := by rw [Int.tmod_eq_emod_of_nonneg (by omega)]; omega
    have HF : Hid (m % n < n) := Nat.mod_lt _ hn
    generalize m % n = p at *
    clear hn hn2 h1 h2
    go_enter Try.func13, Try.ntmps13
    go_wp2
    go_ret
    exact ⟨p, rfl, HF.out, rfl⟩
end Sk
end Go.Proofs.Ytfomnkkpiflokaa
