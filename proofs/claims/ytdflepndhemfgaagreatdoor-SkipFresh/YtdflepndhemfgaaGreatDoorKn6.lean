import Derived.Test.YtdflepndhemfgaaGreatDoorMd1
namespace Go.Proofs.YtdflepndhemfgaaGreatDoor
namespace Sk
open Go.RowKit Laws Irw Erw KMath Skm Byt
set_option linter.unusedVariables false
set_option maxRecDepth 100000
set_option linter.unusedSimpArgs false

theorem eq_sorted {α : Type} {r : α → α → Prop} (ha : ∀ a b, r a b → ¬ r b a) : ∀ {l m : List α}, l.Perm m → l.Pairwise r → m.Pairwise r → l = m
  | [], m, hp, _, _ => by rw [List.nil_perm.1 hp]
  | a :: l, [], hp, _, _ => by have := hp.length_eq; simp at this
  | a :: l, b :: m, hp, h1, h2 => by
    obtain ⟨p1, p2⟩ := List.pairwise_cons.1 h1
    obtain ⟨q1, q2⟩ := List.pairwise_cons.1 h2
    have hab : a = b := by
      have m1 : a ∈ b :: m := hp.mem_iff.1 List.mem_cons_self
      have m2 : b ∈ a :: l := hp.mem_iff.2 List.mem_cons_self
      rcases List.mem_cons.1 m1 with e | m1
      · exact e
      · rcases List.mem_cons.1 m2 with e | m2
        · exact e.symm
        · exact absurd (q1 a m1) (ha a b (p1 b m2))
    subst hab
    rw [eq_sorted ha hp.cons_inv p2 q2]
theorem ltE_asym (a b : En) (h : ltE a b) : ¬ ltE b a := by
  unfold ltE at *
  have := cmpE_neg a.1 b.1 a.2.1 b.2.1
  omega

abbrev eB2 : En := (⟨#[98]⟩, 2, false, ⟨#[]⟩)
abbrev eA1 : En := (⟨#[97]⟩, 1, false, ⟨#[]⟩)
abbrev eB3 : En := (⟨#[98]⟩, 3, false, ⟨#[]⟩)
abbrev eBx : En := (⟨#[98]⟩, 2, false, ⟨#[120]⟩)
abbrev eC9 : En := (⟨#[99]⟩, 9, false, ⟨#[]⟩)
theorem cmp1 (x y : UInt8) (m n : Int) : cmpE ⟨#[x]⟩ ⟨#[y]⟩ m n = if x < y then -1 else if y < x then 1 else if n < m then -1 else if m < n then 1 else 0 := by
  have e1 : (⟨#[x]⟩ : ByteArray).toList = [x] := by rw [ByteArray.toList_eq]
  have e2 : (⟨#[y]⟩ : ByteArray).toList = [y] := by rw [ByteArray.toList_eq]
  unfold cmpE cmpS cmpN
  rw [e1, e2]
  by_cases h1 : x < y
  · simp [Op.bytesLess, h1]
  · by_cases h2 : y < x
    · simp [Op.bytesLess, h1, h2]
    · simp [Op.bytesLess, h1, h2]
theorem sorted4 : [eA1, eB3, eB2, eC9].Pairwise ltE := by
  simp [ltE, cmp1]
theorem four {α : Type} : ∀ {l : List α}, l.length = 4 → ∃ a b c d, l = [a, b, c, d]
  | [a, b, c, d], _ => ⟨a, b, c, d, rfl⟩
theorem known_ns {done : List En} {ns : List Nd} (h : MadeIs [0, 13, 5] done ns [eB2, eA1, eB3, eC9]) (hs : ns.Pairwise (fun a b => ltE a.e b.e)) : ∃ n1 n2 n3 n4 : Nd, ns = [n1, n2, n3, n4] ∧ n1.e = eA1 ∧ n2.e = eB3 ∧ n3.e = eB2 ∧ n4.e = eC9 ∧ n1.h = 2 ∧ n2.h = 6 ∧ n3.h = 1 ∧ n4.h = 1 := by
  have h1 : (ns.map Nd.e).Pairwise ltE := List.pairwise_map.2 hs
  have h2 : ns.map Nd.e = [eA1, eB3, eB2, eC9] := eq_sorted ltE_asym (h.perm.trans (by decide)) h1 sorted4
  have hl : ns.length = 4 := by have := congrArg List.length h2; simpa using this
  obtain ⟨n1, n2, n3, n4, rfl⟩ : ∃ n1 n2 n3 n4, ns = [n1, n2, n3, n4] := four hl
  simp only [List.map_cons, List.map_nil, List.cons.injEq, and_true] at h2
  obtain ⟨e1, e2, e3, e4⟩ := h2
  obtain ⟨a0, m0, q0, r0⟩ := h.hts 0 _ rfl
  obtain ⟨a1, m1, q1, r1⟩ := h.hts 1 _ rfl
  obtain ⟨a2, m2, q2, r2⟩ := h.hts 2 _ rfl
  obtain ⟨a3, m3, q3, r3⟩ := h.hts 3 _ rfl
  have g0 : hgt [0, 13, 5] 0 = 1 := by decide
  have g1 : hgt [0, 13, 5] 1 = 2 := by decide
  have g2 : hgt [0, 13, 5] 2 = 6 := by decide
  have g3 : hgt [0, 13, 5] 3 = 1 := by decide
  rw [g0] at r0
  rw [g1] at r1
  rw [g2] at r2
  rw [g3] at r3
  refine ⟨n1, n2, n3, n4, rfl, e1, e2, e3, e4, ?_, ?_, ?_, ?_⟩
  · simp only [List.mem_cons, List.not_mem_nil, or_false] at m1
    rcases m1 with rfl | rfl | rfl | rfl
    · exact r1
    · rw [e2] at q1; simp at q1
    · rw [e3] at q1; simp at q1
    · rw [e4] at q1; simp at q1
  · simp only [List.mem_cons, List.not_mem_nil, or_false] at m2
    rcases m2 with rfl | rfl | rfl | rfl
    · rw [e1] at q2; simp at q2
    · exact r2
    · rw [e3] at q2; simp at q2
    · rw [e4] at q2; simp at q2
  · simp only [List.mem_cons, List.not_mem_nil, or_false] at m0
    rcases m0 with rfl | rfl | rfl | rfl
    · rw [e1] at q0; simp at q0
    · rw [e2] at q0; simp at q0
    · exact r0
    · rw [e4] at q0; simp at q0
  · simp only [List.mem_cons, List.not_mem_nil, or_false] at m3
    rcases m3 with rfl | rfl | rfl | rfl
    · rw [e1] at q3; simp at q3
    · rw [e2] at q3; simp at q3
    · rw [e3] at q3; simp at q3
    · exact r3
/-- a Put that goes in -/
theorem put_ok {ds : List Nat} {done : List En} {ns ns' : List Nd} {ins : List En} {e : En} {ok : Bool} (h : MadeIs ds done ns ins) (hp : PutIs ds ns e ns' ok) (hn : ∀ x ∈ ins, cmpE x.1 e.1 x.2.1 e.2.1 ≠ 0) : ok = true ∧ MadeIs ds (done ++ [e]) ns' (ins ++ [e]) := by
  have h2 := h.put hp
  rcases hp with ⟨rfl, _, nd, h3, h4⟩ | ⟨rfl, _⟩
  · exact absurd h4 (hn nd.e (h.perm.mem_iff.1 (List.mem_map.2 ⟨nd, h3, rfl⟩)))
  · rw [if_pos rfl] at h2
    exact ⟨rfl, h2⟩
theorem put_no {ds : List Nat} {done : List En} {ns ns' : List Nd} {ins : List En} {e : En} {ok : Bool} (h : MadeIs ds done ns ins) (hp : PutIs ds ns e ns' ok) {x : En} (hx : x ∈ ins) (h0 : cmpE x.1 e.1 x.2.1 e.2.1 = 0) : ok = false ∧ MadeIs ds (done ++ [e]) ns' ins := by
  have h2 := h.put hp
  rcases hp with ⟨rfl, _⟩ | ⟨rfl, h3, _⟩
  · rw [if_neg Bool.false_ne_true] at h2
    exact ⟨rfl, h2⟩
  · obtain ⟨nd, h4, h5⟩ := List.mem_map.1 (h.perm.mem_iff.2 hx)
    rw [← h5] at h0
    exact absurd h0 (h3 nd h4)
/-- what is behind a place -/
theorem post_of {W : World} {L : Nat} {k : ByteArray} {s : Int} {ns pre post : List Nd} (h : Wk W L k s ns pre post) : post = ns.dropWhile (aheadB k s) := by
  rw [h.cut, List.dropWhile_append_of_pos h.hpre]
  cases hp : post with
  | nil => rfl
  | cons n r => rw [List.dropWhile_cons, h.hpost n (by rw [hp]; simp)]; rfl
end Sk
end Go.Proofs.YtdflepndhemfgaaGreatDoor
namespace Go.Proofs.YtdflepndhemfgaaGreatDoor
namespace Sk
open Go.RowKit Laws Irw Erw KMath Skm Byt
set_option linter.unusedVariables false
set_option maxRecDepth 100000
set_option linter.unusedSimpArgs false

set_option maxHeartbeats 1000000 in
theorem sameInts_true (a b : Option Addr) (ca cb n : Nat) (l : List Int) (w : World) (ha : IsI w a l) (hb : IsI w b l) (hn : l.length = n) (hl : n ≤ 1000000000000) :
    Calls Tryz.prog 8 #[.slice a n ca, .slice b n cb] w fun e w' => e = .returned (.bool true) ∧ ∃ n, w' = w.drewN n := by
  have HA : Hid (IsI w a l) := ha
  have HB : Hid (IsI w b l) := hb
  have HNN : Hid (l.length = n) := hn
  clear ha hb hn
  go_enter Tryz.func8, Tryz.ntmps8
  go_wp2
  go_loopw [5] (fun i wr => ∃ k m : Nat, k ≤ n ∧ i = .int .i64 k ∧ wr = w.drewN m) (fun i _ => n - (intOf i).toNat)
  case atStart => exact ⟨0, 0, Nat.zero_le _, rfl, rfl⟩
  case round =>
    obtain ⟨k, m, hk, rfl, rfl⟩ := hrel
    by_cases hlt : k < n
    · have hlt' : k < l.length := by rw [HNN.out]; exact hlt
      have hne : l ≠ [] := by intro e; rw [e] at hlt'; simp at hlt'
      obtain ⟨b1, o1, rfl, hr1⟩ := HA.out hne
      obtain ⟨b2, o2, rfl, hr2⟩ := HB.out hne
      have c0 := hr1.cell hlt'
      have e0 := hr2.cell hlt'
      have q1 : (k : Int) < (n : Int) := by omega
      generalize l.getD k 0 = y at *
      clear hne hlt' hr1 hr2
      go_wp2
      go_quiet (fail)
      go_wp2
      go_roundw
      case rel => exact ⟨k + 1, _, by omega, by go_num, rfl⟩
      case measure => simp [intOf]; omega
    · go_wp2
      go_ret
      exact ⟨rfl, _, rfl⟩

/-- what stands in known -/
structure Kw (w0 : World) (T : Nat → Nat) (w : World) (L : Nat) (done : List En) (ns : List Nd) (ins : List En) : Prop where
  sl : Sl 1 T w L [0, 13, 5] ns
  old : Old w0 T w
  mi : MadeIs [0, 13, 5] done ns ins
theorem Kw.below {w0 : World} {T : Nat → Nat} {w w' : World} {L : Nat} {done : List En} {ns : List Nd} {ins : List En} (h : Kw w0 T w L done ns ins) (hb : Below w.heap.size w w') : Kw w0 T w' L done ns ins := ⟨h.sl.below hb, h.old.goes (Goes.below (t := fun _ => False) hb) (fun z => z), h.mi⟩
theorem Kw.put_yes {w0 : World} {T : Nat → Nat} {w : World} {L : Nat} {done : List En} {ns : List Nd} {ins : List En} (h : Kw w0 T w L done ns ins) (e : En) (hn : ∀ x ∈ ins, cmpE x.1 e.1 x.2.1 e.2.1 ≠ 0) (hl : ins.length ≤ 10) :
    Calls Tryz.prog 16 #[.pointer (some ⟨L, 0, none⟩), .agg #[.string e.1, .int .u64 e.2.1, .bool e.2.2.1, .string e.2.2.2]] w fun r w' => r = .returned (.bool true) ∧ ∃ T' ns', Kw w0 T' w' L (done ++ [e]) ns' (ins ++ [e]) := by
  have h1 := h.mi.perm.length_eq
  rw [List.length_map] at h1
  refine (put_any 1 T w L _ ns e h.sl (by omega) (by simp) (by omega)).mono ?_
  rintro r w' ⟨ok, rfl, T', ns', k1, k2, k3⟩
  obtain ⟨rfl, h2⟩ := put_ok h.mi k3 hn
  exact ⟨rfl, T', ns', k1, h.old.goes k2 (by omega), h2⟩
theorem Kw.put_not {w0 : World} {T : Nat → Nat} {w : World} {L : Nat} {done : List En} {ns : List Nd} {ins : List En} (h : Kw w0 T w L done ns ins) (e : En) {x : En} (hx : x ∈ ins) (h0 : cmpE x.1 e.1 x.2.1 e.2.1 = 0) (hl : ins.length ≤ 10) :
    Calls Tryz.prog 16 #[.pointer (some ⟨L, 0, none⟩), .agg #[.string e.1, .int .u64 e.2.1, .bool e.2.2.1, .string e.2.2.2]] w fun r w' => r = .returned (.bool false) ∧ ∃ T' ns', Kw w0 T' w' L (done ++ [e]) ns' ins := by
  have h1 := h.mi.perm.length_eq
  rw [List.length_map] at h1
  refine (put_any 1 T w L _ ns e h.sl (by omega) (by simp) (by omega)).mono ?_
  rintro r w' ⟨ok, rfl, T', ns', k1, k2, k3⟩
  obtain ⟨rfl, h2⟩ := put_no h.mi k3 hx h0
  exact ⟨rfl, T', ns', k1, h.old.goes k2 (by omega), h2⟩

theorem seek_any {t : Nat} {T : Nat → Nat} {w : World} {L : Nat} {ds : List Nat} {ns : List Nd} (h : Sl t T w L ds ns) (k : ByteArray) (s : Int) :
    Calls Tryz.prog 17 #[.pointer (some ⟨L, 0, none⟩), .string k, .int .u64 s] w fun e w' => e = .returned (seekV (ns.dropWhile (aheadB k s))) ∧ Below w.heap.size w w' := by
  obtain ⟨pre, post, hw⟩ := Wk.of h k s
  have := callsIn_wide.1 (seek_in L k s ns pre post w hw)
  rw [post_of hw] at this
  exact this
theorem Kw.seek5 {w0 : World} {T : Nat → Nat} {w : World} {L : Nat} {done : List En} {ns : List Nd} (h : Kw w0 T w L done ns [eB2, eA1, eB3, eC9]) :
    Calls Tryz.prog 17 #[.pointer (some ⟨L, 0, none⟩), .string ⟨#[98]⟩, .int .u64 5] w fun e w' => e = .returned (.tuple #[.agg #[.string ⟨#[98]⟩, .int .u64 3, .bool false, .string ⟨#[]⟩], .bool true]) ∧ Below w.heap.size w w' := by
  have h1 := seek_any h.sl ⟨#[98]⟩ 5
  obtain ⟨n1, n2, n3, n4, rfl, e1, e2, e3, e4, _⟩ := known_ns h.mi h.sl.sorted
  have a1 : aheadB ⟨#[98]⟩ 5 n1 = true := by unfold aheadB; rw [e1, cmp1]; decide
  have a2 : aheadB ⟨#[98]⟩ 5 n2 = false := by unfold aheadB; rw [e2, cmp1]; decide
  rw [List.dropWhile_cons, a1, if_pos rfl, List.dropWhile_cons, a2, if_neg Bool.false_ne_true] at h1
  have hv : seekV (n2 :: [n3, n4]) = .tuple #[.agg #[.string ⟨#[98]⟩, .int .u64 3, .bool false, .string ⟨#[]⟩], .bool true] := by simp only [seekV, e2]
  rw [hv] at h1
  exact h1
theorem Kw.seek8 {w0 : World} {T : Nat → Nat} {w : World} {L : Nat} {done : List En} {ns : List Nd} (h : Kw w0 T w L done ns [eB2, eA1, eB3, eC9]) :
    Calls Tryz.prog 17 #[.pointer (some ⟨L, 0, none⟩), .string ⟨#[99]⟩, .int .u64 8] w fun e w' => e = .returned (.tuple #[.agg #[.string ⟨#[]⟩, .int .u64 0, .bool false, .string ⟨#[]⟩], .bool false]) ∧ Below w.heap.size w w' := by
  have h1 := seek_any h.sl ⟨#[99]⟩ 8
  obtain ⟨n1, n2, n3, n4, rfl, e1, e2, e3, e4, _⟩ := known_ns h.mi h.sl.sorted
  have a1 : aheadB ⟨#[99]⟩ 8 n1 = true := by unfold aheadB; rw [e1, cmp1]; decide
  have a2 : aheadB ⟨#[99]⟩ 8 n2 = true := by unfold aheadB; rw [e2, cmp1]; decide
  have a3 : aheadB ⟨#[99]⟩ 8 n3 = true := by unfold aheadB; rw [e3, cmp1]; decide
  have a4 : aheadB ⟨#[99]⟩ 8 n4 = true := by unfold aheadB; rw [e4, cmp1]; decide
  rw [List.dropWhile_cons, a1, if_pos rfl, List.dropWhile_cons, a2, if_pos rfl, List.dropWhile_cons, a3, if_pos rfl, List.dropWhile_cons, a4, if_pos rfl] at h1
  exact h1
theorem Kw.towers {w0 : World} {T : Nat → Nat} {w : World} {L : Nat} {done : List En} {ns : List Nd} (h : Kw w0 T w L done ns [eB2, eA1, eB3, eC9]) :
    Calls Tryz.prog 6 #[.pointer (some ⟨L, 0, none⟩)] w fun e w' => ∃ g, e = .returned (.slice (some ⟨g, 0, none⟩) 4 4) ∧ w.heap.size ≤ g ∧ Below w.heap.size w w' ∧ IRow w' g 0 [2, 6, 1, 1] := by
  have hs := h.sl
  obtain ⟨n1, n2, n3, n4, rfl, e1, e2, e3, e4, f1, f2, f3, f4⟩ := known_ns h.mi h.sl.sorted
  have h1 := callsIn_wide.1 (towers_in L [n1, n2, n3, n4] w hs.lt hs.tow hs.chain hs.cnt hs.hts (by simp))
  have e9 : ([n1, n2, n3, n4].map fun n => (n.h : Int)) = [2, 6, 1, 1] := by simp [f1, f2, f3, f4]
  rw [e9] at h1
  exact h1
set_option maxHeartbeats 2000000 in
theorem known_any (w : World) : Calls Tryz.prog 4 #[] w fun e w' => e = .returned (.bool true) ∧ Below w.heap.size w w' := by
  have HI0 : Hid (IsB (w.alloc (.cells #[.int .u8 0, .int .u8 13, .int .u8 5] 5)) (some ⟨w.heap.size, 0, none⟩) [0, 13, 5]) := by
    refine IsB.some ⟨by simp, fun i x hx => ?_⟩ (by simp)
    rw [cell_of_obj (World.alloc_heap_new w _)]
    match i, hx with
    | 0, hx => simp at hx; subst hx; rfl
    | 1, hx => simp at hx; subst hx; rfl
    | 2, hx => simp at hx; subst hx; rfl
    | i + 3, hx => simp at hx
  have HB0 : Hid (Below w.heap.size w (w.alloc (.cells #[.int .u8 0, .int .u8 13, .int .u8 5] 5))) := (Below.refl _ _).alloc (Nat.le_refl _) _
  go_enter Tryz.func4, Tryz.ntmps4
  go_wp2_with fail
  refine (new_any 1 (fun _ => 0) _ _ 3 3 [0, 13, 5] HI0.out rfl (by simp) (by simp)).mono ?_
  rintro e w1 ⟨L, T1, rfl, hL, hsl, hgo⟩
  have HK : Hid (Kw w T1 w1 L [] [] []) := ⟨hsl, ⟨HB0.out.trans ⟨hgo.os, hgo.tape, hgo.output, hgo.size, fun b hb => hgo.block b (Nat.lt_of_lt_of_le hb HB0.out.size) (fun z => z)⟩, fun b hb => by
    rcases hb with hb | hb
    · exact hgo.tag b (Nat.lt_of_lt_of_le hb HB0.out.size) (fun z => z)
    · exact hgo.high b hb rfl⟩, MadeIs.nil _⟩
  clear hsl hgo hL HI0 HB0
  go_wp2_with fail
  refine (HK.out.put_yes eB2 (by simp) (by simp)).mono ?_
  rintro e w2 ⟨rfl, T2, ns2, h2⟩
  have HK2 : Hid _ := h2
  clear HK h2
  go_wp2_with fail
  refine (HK2.out.put_yes eA1 (by simp [cmp1]) (by simp)).mono ?_
  rintro e w3 ⟨rfl, T3, ns3, h3⟩
  have HK3 : Hid _ := h3
  clear HK2 h3
  go_wp2_with fail
  refine (HK3.out.put_yes eB3 (by simp [cmp1]) (by simp)).mono ?_
  rintro e w4 ⟨rfl, T4, ns4, h4⟩
  have HK4 : Hid _ := h4
  clear HK3 h4
  go_wp2_with fail
  refine (HK4.out.put_not eBx (x := eB2) (by simp) (by simp [cmp1]) (by simp)).mono ?_
  rintro e w5 ⟨rfl, T5, ns5, h5⟩
  have HK5 : Hid _ := h5
  clear HK4 h5
  go_wp2_with fail
  refine (HK5.out.put_yes eC9 (by simp [cmp1]) (by simp)).mono ?_
  rintro e w6 ⟨rfl, T6, ns6, h6⟩
  have HK6 : Hid _ := h6
  clear HK5 h6
  go_wp2_with fail
  refine (HK6.out.seek5).mono ?_
  rintro e w7 ⟨rfl, hb7⟩
  have hc7 : Below w7.heap.size w7 (w7.alloc (.cells #[.string ⟨#[98]⟩, .int .u64 3, .bool false, .string ⟨#[]⟩] 61)) := (Below.refl _ _).alloc (Nat.le_refl _) _
  have HK7 : Hid (Kw w T6 (w7.alloc (.cells #[.string ⟨#[98]⟩, .int .u64 3, .bool false, .string ⟨#[]⟩] 61)) L _ ns6 [eB2, eA1, eB3, eC9]) := (HK6.out.below hb7).below hc7
  have g7 : (w7.alloc (.cells #[.string ⟨#[98]⟩, .int .u64 3, .bool false, .string ⟨#[]⟩] 61)).heap[w7.heap.size]? = some (.cells #[.string ⟨#[98]⟩, .int .u64 3, .bool false, .string ⟨#[]⟩] 61) := World.alloc_heap_new _ _
  clear HK6 hb7 hc7
  go_wp2_with fail
  generalize w7.alloc (.cells #[.string ⟨#[98]⟩, .int .u64 3, .bool false, .string ⟨#[]⟩] 61) = W7 at *
  have hl7 : w7.heap.size < W7.heap.size := (Array.getElem?_eq_some_iff.1 g7).1
  refine (HK7.out.seek8).mono ?_
  rintro e w8 ⟨rfl, hb8⟩
  have hc8 : Below w8.heap.size w8 (w8.alloc (.cells #[.string ⟨#[]⟩, .int .u64 0, .bool false, .string ⟨#[]⟩] 61)) := (Below.refl _ _).alloc (Nat.le_refl _) _
  have HK8 : Hid (Kw w T6 (w8.alloc (.cells #[.string ⟨#[]⟩, .int .u64 0, .bool false, .string ⟨#[]⟩] 61)) L _ ns6 [eB2, eA1, eB3, eC9]) := (HK7.out.below hb8).below hc8
  have g8 : (w8.alloc (.cells #[.string ⟨#[]⟩, .int .u64 0, .bool false, .string ⟨#[]⟩] 61)).heap[w7.heap.size]? = some (.cells #[.string ⟨#[98]⟩, .int .u64 3, .bool false, .string ⟨#[]⟩] 61) := (hc8.block _ (Nat.lt_of_lt_of_le hl7 hb8.size)).trans ((hb8.block _ hl7).trans g7)
  have g9 : (w8.alloc (.cells #[.string ⟨#[]⟩, .int .u64 0, .bool false, .string ⟨#[]⟩] 61)).heap[w8.heap.size]? = some (.cells #[.string ⟨#[]⟩, .int .u64 0, .bool false, .string ⟨#[]⟩] 61) := World.alloc_heap_new _ _
  have x0 : (w8.alloc (.cells #[.string ⟨#[]⟩, .int .u64 0, .bool false, .string ⟨#[]⟩] 61)).cell? ⟨w7.heap.size, 0, none⟩ = some (.string ⟨#[98]⟩) := by rw [cell_of_obj g8]; rfl
  have x1 : (w8.alloc (.cells #[.string ⟨#[]⟩, .int .u64 0, .bool false, .string ⟨#[]⟩] 61)).cell? ⟨w7.heap.size, 1, none⟩ = some (.int .u64 3) := by rw [cell_of_obj g8]; rfl
  have y0 : (w8.alloc (.cells #[.string ⟨#[]⟩, .int .u64 0, .bool false, .string ⟨#[]⟩] 61)).cell? ⟨w8.heap.size, 0, none⟩ = some (.string ⟨#[]⟩) := by rw [cell_of_obj g9]; rfl
  have y1 : (w8.alloc (.cells #[.string ⟨#[]⟩, .int .u64 0, .bool false, .string ⟨#[]⟩] 61)).cell? ⟨w8.heap.size, 1, none⟩ = some (.int .u64 0) := by rw [cell_of_obj g9]; rfl
  have y2 : (w8.alloc (.cells #[.string ⟨#[]⟩, .int .u64 0, .bool false, .string ⟨#[]⟩] 61)).cell? ⟨w8.heap.size, 2, none⟩ = some (.bool false) := by rw [cell_of_obj g9]; rfl
  have y3 : (w8.alloc (.cells #[.string ⟨#[]⟩, .int .u64 0, .bool false, .string ⟨#[]⟩] 61)).cell? ⟨w8.heap.size, 3, none⟩ = some (.string ⟨#[]⟩) := by rw [cell_of_obj g9]; rfl
  have HLEN : Hid (Calls Tryz.prog 18 #[.pointer (some ⟨L, 0, none⟩)] (w8.alloc (.cells #[.string ⟨#[]⟩, .int .u64 0, .bool false, .string ⟨#[]⟩] 61)) fun e w' => e = .returned (.int .i64 4) ∧ w' = w8.alloc (.cells #[.string ⟨#[]⟩, .int .u64 0, .bool false, .string ⟨#[]⟩] 61)) := by
    have h1 := HK8.out.mi.perm.length_eq
    rw [List.length_map] at h1
    have h2 := len_any 1 T6 (w8.alloc (.cells #[.string ⟨#[]⟩, .int .u64 0, .bool false, .string ⟨#[]⟩] 61)) L _ ns6 HK8.out.sl
    rw [h1] at h2
    exact h2
  clear HK7 hb8 hc8 g7 g8 g9
  go_wp2_with fail
  generalize w8.alloc (.cells #[.string ⟨#[]⟩, .int .u64 0, .bool false, .string ⟨#[]⟩] 61) = W8 at *
  refine HLEN.out.mono ?_
  rintro e w9 ⟨rfl, hw9⟩
  have hw8 := hw9.symm
  clear hw9
  subst hw8
  go_wp2_with fail
  refine (HK8.out.towers).mono ?_
  rintro e w10 ⟨g, rfl, hg, hb10, hrow⟩
  have hc11 : Below w10.heap.size w10 (w10.alloc (.cells #[.int .i64 2, .int .i64 6, .int .i64 1, .int .i64 1] 3)) := (Below.refl _ _).alloc (Nat.le_refl _) _
  have HSI : Hid (Calls Tryz.prog 8 #[.slice (some ⟨g, 0, none⟩) 4 4, .slice (some ⟨w10.heap.size, 0, none⟩) 4 4] (w10.alloc (.cells #[.int .i64 2, .int .i64 6, .int .i64 1, .int .i64 1] 3)) fun e w' => e = .returned (.bool true) ∧ ∃ n, w' = (w10.alloc (.cells #[.int .i64 2, .int .i64 6, .int .i64 1, .int .i64 1] 3)).drewN n) := by
    refine sameInts_true _ _ 4 4 4 [2, 6, 1, 1] _ ((IsI.of hrow).below hc11) (IsI.of ⟨by simp, fun i z hz => ?_⟩) rfl (by omega)
    rw [cell_of_obj (World.alloc_heap_new _ _)]
    match i, hz with
    | 0, hz => simp at hz; subst hz; rfl
    | 1, hz => simp at hz; subst hz; rfl
    | 2, hz => simp at hz; subst hz; rfl
    | 3, hz => simp at hz; subst hz; rfl
    | i + 4, hz => simp at hz
  have HFB : Hid (Below w.heap.size w (w10.alloc (.cells #[.int .i64 2, .int .i64 6, .int .i64 1, .int .i64 1] 3))) := (HK8.out.old.below.trans (hb10.mono HK8.out.old.below.size)).trans (hc11.mono (Nat.le_trans HK8.out.old.below.size hb10.size))
  clear hrow hb10 hc11 HK8 HLEN
  go_wp2_with fail
  refine HSI.out.mono ?_
  rintro e w12 ⟨rfl, n12, rfl⟩
  go_wp2
  go_ret
  exact ⟨rfl, below_drewN HFB.out _⟩
end Sk
end Go.Proofs.YtdflepndhemfgaaGreatDoor
