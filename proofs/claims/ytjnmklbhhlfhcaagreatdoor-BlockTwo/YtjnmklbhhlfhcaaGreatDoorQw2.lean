import Derived.Test.YtjnmklbhhlfhcaaGreatDoorQb2
import Derived.Test.YtjnmklbhhlfhcaaGreatDoorQr0
import Derived.Test.YtjnmklbhhlfhcaaGreatDoorSum
import Derived.Test.YtjnmklbhhlfhcaaGreatDoorEAp
import Derived.Deep.RegionHeld3
import Derived.BigRegion
import Derived.Deep.RegionLaw
import Derived.Deep.DrawnRows
import Derived.Test.YtjnmklbhhlfhcaaGreatDoorQb5
namespace Go.Proofs.YtjnmklbhhlfhcaaGreatDoor
namespace Qb
open Go.RowKit CMath Byt Laws Irw Crw Cod
set_option linter.unusedVariables false
set_option linter.unusedSimpArgs false
set_option maxRecDepth 20000

theorem ref_one (k : ByteArray) (s : Int) (d : Bool) (v : ByteArray) (w : World) (hk : k.size ≤ 1000000) (hv : v.size ≤ 1000000) :
    Calls Tryz.prog 61 #[.slice (some ⟨w.heap.size + 1, 0, none⟩) 1 1] ((w.alloc (.cells #[.string k, .int .u64 s, .bool d, .string v] 54)).alloc (.cells #[.string k, .bool d, .string v] 110)) fun e w' => e = .returned (.int .i64 (Chk.errW k d v)) ∧ Below w.heap.size w w' ∧
      w'.cell? ⟨w.heap.size, 1, none⟩ = some (.int .u64 s) ∧ w'.cell? ⟨w.heap.size, 2, none⟩ = some (.bool d) ∧ w'.cell? ⟨w.heap.size, 3, none⟩ = some (.string v) := by
  have h1 := isWr_new (w := w.alloc (.cells #[.string k, .int .u64 s, .bool d, .string v] 54)) (d := d) (u := 110) hk hv
  have e1 : (w.alloc (.cells #[.string k, .int .u64 s, .bool d, .string v] 54)).heap.size = w.heap.size + 1 := by simp
  rw [e1] at h1
  refine (Bat.refBatch_any (some ⟨w.heap.size + 1, 0, none⟩) 1 [(k, d, v)] _ h1).mono ?_
  rintro e w' ⟨rfl, hw⟩
  have hb : Below ((w.alloc (.cells #[.string k, .int .u64 s, .bool d, .string v] 54)).alloc (.cells #[.string k, .bool d, .string v] 110)).heap.size ((w.alloc (.cells #[.string k, .int .u64 s, .bool d, .string v] 54)).alloc (.cells #[.string k, .bool d, .string v] 110)) w' := by rw [hw]; exact Below.refl _ _
  have hbb : Below w.heap.size w w' := ((((Below.refl _ _).alloc (Nat.le_refl _) _).alloc (by simp) _).trans (hb.mono (by simp; omega)))
  refine ⟨by rw [errB_one], hbb, ?_, ?_, ?_⟩
  · rw [hb.cell (p := ⟨w.heap.size, 1, none⟩) (by simp; omega)]; simp
  · rw [hb.cell (p := ⟨w.heap.size, 2, none⟩) (by simp; omega)]; simp
  · rw [hb.cell (p := ⟨w.heap.size, 3, none⟩) (by simp; omega)]; simp
set_option maxHeartbeats 1000000 in
theorem refFault_any (k : ByteArray) (s : Int) (d : Bool) (v : ByteArray) (w : World) (hk : k.size ≤ 1000000) (hv : v.size ≤ 1000000) :
    Calls Tryz.prog 21 #[.agg #[.string k, .int .u64 s, .bool d, .string v]] w fun e w' => e = .returned (.int .i64 (fault (k, s, d, v))) ∧ Below w.heap.size w w' := by
  rw [fault_err]
  by_cases he : Chk.errW k d v = 0
  · have g0 : (Chk.errW k d v != 0) = false := by simp [he]
    rw [if_neg (by simpa using he)]
    clear he
    by_cases hq : 72057594037927935 < s
    · rw [if_pos (.inl hq)]
      go_enter Tryz.func21, Tryz.ntmps21
      go_wp2_with (go_at_call 61; refine (ref_one k s d v w hk hv).mono ?_; rintro e w1 ⟨rfl, hb1, k1, k2, k3⟩; have HB : Hid (Below w.heap.size w w1) := hb1; clear hb1)
      go_ret
      exact ⟨rfl, HB.out⟩
    · cases d with
      | false =>
        rw [if_neg (by simp [hq])]
        go_enter Tryz.func21, Tryz.ntmps21
        go_wp2_with (go_at_call 61; refine (ref_one k s false v w hk hv).mono ?_; rintro e w1 ⟨rfl, hb1, k1, k2, k3⟩; have HB : Hid (Below w.heap.size w w1) := hb1; clear hb1)
        go_ret
        exact ⟨rfl, HB.out⟩
      | true =>
        by_cases hv0 : v.size = 0
        · rw [if_neg (by simp [hq, hv0])]
          have hv1 := size0 hv0
          subst hv1
          go_enter Tryz.func21, Tryz.ntmps21
          go_wp2_with (go_at_call 61; refine (ref_one k s true _ w hk hv).mono ?_; rintro e w1 ⟨rfl, hb1, k1, k2, k3⟩; have HB : Hid (Below w.heap.size w w1) := hb1; clear hb1)
          go_ret
          exact ⟨rfl, HB.out⟩
        · rw [if_pos (.inr ⟨rfl, hv0⟩)]
          have hne : (!v.toList.isEmpty) = true := by
            rw [Lib.toList_data]
            have hlen : v.data.toList.length = v.size := by simp
            cases hd : v.data.toList with
            | nil => rw [hd] at hlen; simp at hlen; omega
            | cons _ _ => rfl
          go_enter Tryz.func21, Tryz.ntmps21
          go_wp2_with (go_at_call 61; refine (ref_one k s true v w hk hv).mono ?_; rintro e w1 ⟨rfl, hb1, k1, k2, k3⟩; have HB : Hid (Below w.heap.size w w1) := hb1; clear hb1)
          go_ret
          exact ⟨rfl, HB.out⟩
  · have g0 : (Chk.errW k d v != 0) = true := by simp [he]
    rw [if_pos he]
    clear he
    go_enter Tryz.func21, Tryz.ntmps21
    go_wp2_with (go_at_call 61; refine (ref_one k s d v w hk hv).mono ?_; rintro e w1 ⟨rfl, hb1, k1, k2, k3⟩; have HB : Hid (Below w.heap.size w w1) := hb1; clear hb1)
    go_ret
    exact ⟨rfl, HB.out⟩


theorem above_eq (a b : ByteArray) : decide ((0 : Int) < KMath.cmpE a b 0 0) = Op.bytesLess b.toList a.toList := by
  unfold KMath.cmpE
  cases h1 : Op.bytesLess a.toList b.toList with
  | true => rw [KMath.cmpS_lt h1, KMath.bl_asymm _ _ h1]; rfl
  | false =>
    cases h2 : Op.bytesLess b.toList a.toList with
    | true => rw [KMath.cmpS_gt h2]; rfl
    | false => rw [KMath.cmpS_eq h1 h2]; rfl
set_option maxHeartbeats 1000000 in
theorem refAbove_any (a b : ByteArray) (w : World) (ha : a.size ≤ 1000000) (hb : b.size ≤ 1000000) :
    Calls Tryz.prog 22 #[.string a, .string b] w fun e w' => e = .returned (.bool (Op.bytesLess b.toList a.toList)) ∧ Below w.heap.size w w' := by
  rw [← above_eq]
  go_enter Tryz.func22, Tryz.ntmps22
  go_wp2_with (go_at_call 62; go_loud (refine (Ent.refCompare_any a 0 false ⟨#[]⟩ b 0 false ⟨#[]⟩ _ (by unfold maxLen; omega) (by unfold maxLen; omega)).mono ?_; rintro e w1 ⟨rfl, hb1⟩; have HB : Hid (Below w.heap.size w w1) := hb1; clear hb1))
  go_ret
  exact ⟨rfl, HB.out⟩

/-- a world in which nothing from before has turned -/
structure Und (w : World) where
  W : World
  ok : Below w.heap.size w W
theorem Und.non (w : World) : Nonempty (Und w) := ⟨⟨w, Below.refl _ _⟩⟩
/-- a region that draws its order, whose operations read what was there before and whose calls turn nothing of it: one walk in the order of the text -/
theorem wp_region_und {P : Program} {id : Nat} {Q : Exit → Act → World → Prop} {a : Act} {w : World} {l : List Oper} (hm : P.follows .mixedOrders = true) (hB : Region.lexB .any l.toArray = true)
    (h : wpQuiet P l.toArray (fun w' => ∃ V : Und w, w' = V.W) (fun a' => ∀ w', Below w.heap.size w w' → Q .normal a' w') l a) : (Code.region id l.toArray true).wp P Q a w := by
  have e : (fun a' => ∀ w', Below w.heap.size w w' → Q .normal a' w') = (fun a' => ∀ w', (∃ V : Und w, w' = V.W) → Q .normal a' w') := by
    funext a'
    exact propext ⟨fun k w' ⟨V, e⟩ => k w' (e ▸ V.ok), fun k w' hb => k w' ⟨⟨w', hb⟩, rfl⟩⟩
  rw [e] at h
  exact wp_region_quiet (C := fun w' => ∃ V : Und w, w' = V.W) hm hB ⟨⟨w.drew, (Below.refl _ _).drew⟩, rfl⟩ (by simpa using h)
theorem Und.cell {w : World} {p : Addr} {v : Value} (h : w.cell? p = some v) (V : Und w) : V.W.cell? p = some v := (V.ok.cell (World.block_lt_of_cell? w _ h)).trans h
theorem Und.call {P : Program} {f : Nat} {args : Array Value} {w : World} {V : Und w} {v : Value} (h : Calls P f args V.W fun e w' => e = .returned v ∧ Below V.W.heap.size V.W w') : Calls P f args V.W fun e w'' => e = .returned v ∧ ∃ V' : Und w, w'' = V'.W :=
  h.mono fun _ w' ⟨he, hb⟩ => ⟨he, ⟨w', V.ok.trans (hb.mono V.ok.size)⟩, rfl⟩
/-- The last key of entries. -/
def lastK (l : List En) : ByteArray := match l.getLast? with
  | none => ⟨#[]⟩
  | some e => e.1
theorem lastK_nil : lastK [] = ⟨#[]⟩ := rfl
theorem lastK_at {l : List En} (h : 0 < l.length) : ∃ e, l[l.length - 1]? = some e ∧ lastK l = e.1 := by
  unfold lastK
  rw [List.getLast?_eq_getElem?]
  obtain ⟨e, he⟩ : ∃ e, l[l.length - 1]? = some e := ⟨_, List.getElem?_eq_getElem (by omega)⟩
  exact ⟨e, he, by rw [he]⟩
theorem lastK_snoc (l : List En) (e : En) : lastK (l ++ [e]) = e.1 := by
  unfold lastK
  simp
set_option maxHeartbeats 2000000 in
theorem refAdds_any (a : Option Addr) (cap n : Nat) (l : List En) (k : ByteArray) (s : Int) (d : Bool) (x : ByteArray) (w : World) (hl : Erw.IsE w a l) (hn : n = l.length) (hm : n ≤ 1000000) (hk : k.size ≤ 1000000) (hx : x.size ≤ 1000000) (hls : (lastK l).size ≤ 1000000) :
    Calls Tryz.prog 6 #[.slice a n cap, .agg #[.string k, .int .u64 s, .bool d, .string x]] w fun e w' => e = .returned (.int .i64 (adds (lastK l) (k, s, d, x))) ∧ Below w.heap.size w w' := by
  have HB1 : Hid (Below w.heap.size w (w.alloc (.cells #[.string k, .int .u64 s, .bool d, .string x] 54))) := (Below.refl _ _).alloc (Nat.le_refl _) _
  have hE0 : (w.alloc (.cells #[.string k, .int .u64 s, .bool d, .string x] 54)).cell? ⟨w.heap.size, 0, none⟩ = some (.string k) := by simp
  have HL1 : Hid (w.heap.size < (w.alloc (.cells #[.string k, .int .u64 s, .bool d, .string x] 54)).heap.size) := by show _ < _; simp
  have HFA : Hid (∀ W, Calls Tryz.prog 21 #[.agg #[.string k, .int .u64 s, .bool d, .string x]] W fun e w' => e = .returned (.int .i64 (fault (k, s, d, x))) ∧ Below W.heap.size W w') := fun W => refFault_any k s d x W hk hx
  by_cases hf : fault (k, s, d, x) = 0
  · rw [hf] at HFA
    by_cases hne : l = []
    · subst hne
      have hn0 : n = 0 := hn
      clear hn hl hls
      subst hn0
      have hal : adds (lastK []) (k, s, d, x) = 0 := by
        unfold adds
        rw [if_neg (by simpa using hf), if_pos]
        rw [lastK_nil]
        have h1 : 1 ≤ k.size := (fault_ok hf).k1
        show Op.bytesLess [] k.data.toList = true
        cases hd : k.data.toList with
        | nil =>
          have : k.data.toList.length = k.size := by simp
          rw [hd] at this
          simp only [List.length_nil] at this
          omega
        | cons _ _ => rfl
      rw [hal]
      go_enter Tryz.func6, Tryz.ntmps6
      go_wp2_with (go_at_call 21; refine (HFA.out _).mono ?_; rintro e w2 ⟨rfl, hb2⟩; have HB2 : Hid (Below w.heap.size w w2) := HB1.out.trans (hb2.mono (Nat.le_of_lt HL1.out)); clear hb2 hE0)
      go_big_region
      go_wp2
      go_ret
      exact ⟨rfl, HB2.out.drew⟩
    · have hp : 0 < l.length := List.length_pos_iff.2 hne
      obtain ⟨le, hle, hlk⟩ := lastK_at hp
      obtain ⟨b, off, rfl, hr⟩ := hl hne
      have hc0 := (hr.2 _ _ hle).1
      rw [hlk] at hls ⊢
      have HA : Hid (∀ W, Calls Tryz.prog 22 #[.string k, .string le.1] W fun e w' => e = .returned (.bool (Op.bytesLess le.1.toList k.toList)) ∧ Below W.heap.size W w') := fun W => refAbove_any k le.1 W hk hls
      have hrl := hr.1
      obtain ⟨m, hm'⟩ : ∃ m, n = m + 1 := ⟨n - 1, by omega⟩
      have hlm : l.length - 1 = m := by omega
      rw [hlm] at hc0
      clear hl hr hle hne hlk hp hlm hn
      generalize le.1 = lk at *
      have qn : (0 : Int) < (n : Int) := by omega
      have qn0 : 0 < n := by omega
      have qmN : m < n := by omega
      have qm : (m : Int) < (n : Int) := by omega
      have qm0 : (0 : Int) ≤ (m : Int) := by omega
      have qmw : wrap64 ((n : Int) - 1) = (m : Int) := by unfold wrap64; omega
      have qmw2 : IntKind.i64.wrap ((n : Int) - 1) = (m : Int) := by rw [IntKind.wrap_i64]; omega
      have qmw3 : (n : Int) - 1 = (m : Int) := by omega
      clear hm'
      cases hbl : Op.bytesLess lk.toList k.toList with
      | true =>
        have hal : adds lk (k, s, d, x) = 0 := by unfold adds; rw [if_neg (by simpa using hf), if_pos (by rw [← Lib.toList_data, ← Lib.toList_data]; exact hbl)]
        rw [hal]
        rw [hbl] at HA
        go_enter Tryz.func6, Tryz.ntmps6
        go_wp2_with (go_at_call 21; refine (HFA.out _).mono ?_; rintro e w2 ⟨rfl, hb2⟩; have HB2 : Hid (Below w.heap.size w w2) := HB1.out.trans (hb2.mono (Nat.le_of_lt HL1.out)); have e0 := (hb2.cell (p := ⟨w.heap.size, 0, none⟩) HL1.out).trans hE0; have c0 := (HB2.out.cell (p := ⟨b, off + m * 4, none⟩) hrl).trans hc0; have HEL : Hid (w.heap.size < w2.heap.size) := Nat.lt_of_lt_of_le HL1.out hb2.size; clear hb2 hE0)
        have hne9 := Und.non w2
        have U0 := Und.cell e0
        have U1 := Und.cell c0
        refine wp_region_und (by kernel_rfl) (by kernel_rfl) ?_
        repeat (go_big_quiet_step ((go_at_call 22; exact Und.call (HA.out _))))
        refine wpQuiet_nil ?_
        intro wA hb9
        have HB9 : Hid (Below w2.heap.size w2 wA) := hb9
        clear hb9 U0 U1 hne9
        go_wp2
        go_ret
        exact ⟨rfl, HB2.out.trans (HB9.out.mono HB2.out.size)⟩
      | false =>
        have hal : adds lk (k, s, d, x) = 90 := by unfold adds; rw [if_neg (by simpa using hf), if_neg (by rw [← Lib.toList_data, ← Lib.toList_data, hbl]; simp)]
        rw [hal]
        rw [hbl] at HA
        go_enter Tryz.func6, Tryz.ntmps6
        go_wp2_with (go_at_call 21; refine (HFA.out _).mono ?_; rintro e w2 ⟨rfl, hb2⟩; have HB2 : Hid (Below w.heap.size w w2) := HB1.out.trans (hb2.mono (Nat.le_of_lt HL1.out)); have e0 := (hb2.cell (p := ⟨w.heap.size, 0, none⟩) HL1.out).trans hE0; have c0 := (HB2.out.cell (p := ⟨b, off + m * 4, none⟩) hrl).trans hc0; have HEL : Hid (w.heap.size < w2.heap.size) := Nat.lt_of_lt_of_le HL1.out hb2.size; clear hb2 hE0)
        have hne9 := Und.non w2
        have U0 := Und.cell e0
        have U1 := Und.cell c0
        refine wp_region_und (by kernel_rfl) (by kernel_rfl) ?_
        repeat (go_big_quiet_step ((go_at_call 22; exact Und.call (HA.out _))))
        refine wpQuiet_nil ?_
        intro wA hb9
        have HB9 : Hid (Below w2.heap.size w2 wA) := hb9
        clear hb9 U0 U1 hne9
        go_wp2
        go_ret
        exact ⟨rfl, HB2.out.trans (HB9.out.mono HB2.out.size)⟩
  · have hal : adds (lastK l) (k, s, d, x) = fault (k, s, d, x) := by unfold adds; rw [if_pos hf]
    have g0 : (fault (k, s, d, x) == 0) = false := by rw [beq_eq_false_iff_ne]; exact hf
    rw [hal]
    go_enter Tryz.func6, Tryz.ntmps6
    go_wp2_with (go_at_call 21; refine (HFA.out _).mono ?_; rintro e w2 ⟨rfl, hb2⟩; have HB2 : Hid (Below w.heap.size w w2) := HB1.out.trans (hb2.mono (Nat.le_of_lt HL1.out)); clear hb2 hE0)
    go_big_region
    go_wp2
    go_ret
    exact ⟨rfl, HB2.out.drew⟩

end Qb
end Go.Proofs.YtjnmklbhhlfhcaaGreatDoor
namespace Go.Proofs.YtjnmklbhhlfhcaaGreatDoor
namespace Qb
open Go.RowKit CMath Byt Laws Irw Crw Cod
set_option linter.unusedVariables false
set_option linter.unusedSimpArgs false
set_option maxRecDepth 20000

theorem isWr_newB {w : World} {k : ByteArray} {d : Bool} {v : ByteArray} {u : TypeId} (hk : k.size ≤ 9223372036854775807) (hv : v.size ≤ 9223372036854775807) : Chk.IsWr (w.alloc (.cells #[.string k, .bool d, .string v] u)) (some ⟨w.heap.size, 0, none⟩) [(k, d, v)] := by
  refine ⟨fun _ => ⟨w.heap.size, 0, rfl, by simp, fun i x hx => ?_⟩, by simp [maxLen], ?_⟩
  · cases i with
    | zero =>
      simp at hx
      subst hx
      simp
    | succ i => simp at hx
  · intro x hx
    simp at hx
    subst hx
    unfold maxLen
    dsimp only
    omega
theorem check_oneB (k : ByteArray) (s : Int) (d : Bool) (v : ByteArray) (w : World) (hk : k.size ≤ 9223372036854775807) (hv : v.size ≤ 9223372036854775807) :
    Calls Tryz.prog 63 #[.slice (some ⟨w.heap.size + 1, 0, none⟩) 1 1] ((w.alloc (.cells #[.string k, .int .u64 s, .bool d, .string v] 54)).alloc (.cells #[.string k, .bool d, .string v] 110)) fun e w' => e = .returned (.int .i64 (Chk.errW k d v)) ∧ Below w.heap.size w w' ∧
      w'.cell? ⟨w.heap.size, 1, none⟩ = some (.int .u64 s) ∧ w'.cell? ⟨w.heap.size, 2, none⟩ = some (.bool d) ∧ w'.cell? ⟨w.heap.size, 3, none⟩ = some (.string v) := by
  have h1 := isWr_newB (w := w.alloc (.cells #[.string k, .int .u64 s, .bool d, .string v] 54)) (d := d) (u := 110) hk hv
  have e1 : (w.alloc (.cells #[.string k, .int .u64 s, .bool d, .string v] 54)).heap.size = w.heap.size + 1 := by simp
  rw [e1] at h1
  refine (Bat.checkBatch_any (some ⟨w.heap.size + 1, 0, none⟩) 1 [(k, d, v)] _ h1).mono ?_
  rintro e w' ⟨rfl, hb⟩
  have hbb : Below w.heap.size w w' := ((((Below.refl _ _).alloc (Nat.le_refl _) _).alloc (by simp) _).trans (hb.mono (by simp; omega)))
  refine ⟨by rw [errB_one], hbb, ?_, ?_, ?_⟩
  · rw [hb.cell (p := ⟨w.heap.size, 1, none⟩) (by simp; omega)]; simp
  · rw [hb.cell (p := ⟨w.heap.size, 2, none⟩) (by simp; omega)]; simp
  · rw [hb.cell (p := ⟨w.heap.size, 3, none⟩) (by simp; omega)]; simp
set_option maxHeartbeats 1000000 in
theorem checkEntry_anyB (k : ByteArray) (s : Int) (d : Bool) (v : ByteArray) (w : World) (hk : k.size ≤ 9223372036854775807) (hv : v.size ≤ 9223372036854775807) :
    Calls Tryz.prog 23 #[.agg #[.string k, .int .u64 s, .bool d, .string v]] w fun e w' => e = .returned (.int .i64 (fault (k, s, d, v))) ∧ Below w.heap.size w w' := by
  rw [fault_err]
  by_cases he : Chk.errW k d v = 0
  · have g0 : (Chk.errW k d v != 0) = false := by simp [he]
    rw [if_neg (by simpa using he)]
    clear he
    by_cases hq : 72057594037927935 < s
    · rw [if_pos (.inl hq)]
      go_enter Tryz.func23, Tryz.ntmps23
      go_wp2_with (go_at_call 63; refine (check_oneB k s d v w hk hv).mono ?_; rintro e w1 ⟨rfl, hb1, k1, k2, k3⟩; have HB : Hid (Below w.heap.size w w1) := hb1; clear hb1)
      go_ret
      exact ⟨rfl, HB.out⟩
    · cases d with
      | false =>
        rw [if_neg (by simp [hq])]
        go_enter Tryz.func23, Tryz.ntmps23
        go_wp2_with (go_at_call 63; refine (check_oneB k s false v w hk hv).mono ?_; rintro e w1 ⟨rfl, hb1, k1, k2, k3⟩; have HB : Hid (Below w.heap.size w w1) := hb1; clear hb1)
        go_ret
        exact ⟨rfl, HB.out⟩
      | true =>
        by_cases hv0 : v.size = 0
        · rw [if_neg (by simp [hq, hv0])]
          have hv1 := size0 hv0
          subst hv1
          go_enter Tryz.func23, Tryz.ntmps23
          go_wp2_with (go_at_call 63; refine (check_oneB k s true _ w hk hv).mono ?_; rintro e w1 ⟨rfl, hb1, k1, k2, k3⟩; have HB : Hid (Below w.heap.size w w1) := hb1; clear hb1)
          go_ret
          exact ⟨rfl, HB.out⟩
        · rw [if_pos (.inr ⟨rfl, hv0⟩)]
          have hne : (!v.toList.isEmpty) = true := by
            rw [Lib.toList_data]
            have hlen : v.data.toList.length = v.size := by simp
            cases hd : v.data.toList with
            | nil => rw [hd] at hlen; simp at hlen; omega
            | cons _ _ => rfl
          go_enter Tryz.func23, Tryz.ntmps23
          go_wp2_with (go_at_call 63; refine (check_oneB k s true v w hk hv).mono ?_; rintro e w1 ⟨rfl, hb1, k1, k2, k3⟩; have HB : Hid (Below w.heap.size w w1) := hb1; clear hb1)
          go_ret
          exact ⟨rfl, HB.out⟩
  · have g0 : (Chk.errW k d v != 0) = true := by simp [he]
    rw [if_pos he]
    clear he
    go_enter Tryz.func23, Tryz.ntmps23
    go_wp2_with (go_at_call 63; refine (check_oneB k s d v w hk hv).mono ?_; rintro e w1 ⟨rfl, hb1, k1, k2, k3⟩; have HB : Hid (Below w.heap.size w w1) := hb1; clear hb1)
    go_ret
    exact ⟨rfl, HB.out⟩
theorem ref_oneB (k : ByteArray) (s : Int) (d : Bool) (v : ByteArray) (w : World) (hk : k.size ≤ 9223372036854775807) (hv : v.size ≤ 9223372036854775807) :
    Calls Tryz.prog 61 #[.slice (some ⟨w.heap.size + 1, 0, none⟩) 1 1] ((w.alloc (.cells #[.string k, .int .u64 s, .bool d, .string v] 54)).alloc (.cells #[.string k, .bool d, .string v] 110)) fun e w' => e = .returned (.int .i64 (Chk.errW k d v)) ∧ Below w.heap.size w w' ∧
      w'.cell? ⟨w.heap.size, 1, none⟩ = some (.int .u64 s) ∧ w'.cell? ⟨w.heap.size, 2, none⟩ = some (.bool d) ∧ w'.cell? ⟨w.heap.size, 3, none⟩ = some (.string v) := by
  have h1 := isWr_newB (w := w.alloc (.cells #[.string k, .int .u64 s, .bool d, .string v] 54)) (d := d) (u := 110) hk hv
  have e1 : (w.alloc (.cells #[.string k, .int .u64 s, .bool d, .string v] 54)).heap.size = w.heap.size + 1 := by simp
  rw [e1] at h1
  refine (Bat.refBatch_any (some ⟨w.heap.size + 1, 0, none⟩) 1 [(k, d, v)] _ h1).mono ?_
  rintro e w' ⟨rfl, hw⟩
  have hb : Below ((w.alloc (.cells #[.string k, .int .u64 s, .bool d, .string v] 54)).alloc (.cells #[.string k, .bool d, .string v] 110)).heap.size ((w.alloc (.cells #[.string k, .int .u64 s, .bool d, .string v] 54)).alloc (.cells #[.string k, .bool d, .string v] 110)) w' := by rw [hw]; exact Below.refl _ _
  have hbb : Below w.heap.size w w' := ((((Below.refl _ _).alloc (Nat.le_refl _) _).alloc (by simp) _).trans (hb.mono (by simp; omega)))
  refine ⟨by rw [errB_one], hbb, ?_, ?_, ?_⟩
  · rw [hb.cell (p := ⟨w.heap.size, 1, none⟩) (by simp; omega)]; simp
  · rw [hb.cell (p := ⟨w.heap.size, 2, none⟩) (by simp; omega)]; simp
  · rw [hb.cell (p := ⟨w.heap.size, 3, none⟩) (by simp; omega)]; simp
set_option maxHeartbeats 1000000 in
theorem refFault_anyB (k : ByteArray) (s : Int) (d : Bool) (v : ByteArray) (w : World) (hk : k.size ≤ 9223372036854775807) (hv : v.size ≤ 9223372036854775807) :
    Calls Tryz.prog 21 #[.agg #[.string k, .int .u64 s, .bool d, .string v]] w fun e w' => e = .returned (.int .i64 (fault (k, s, d, v))) ∧ Below w.heap.size w w' := by
  rw [fault_err]
  by_cases he : Chk.errW k d v = 0
  · have g0 : (Chk.errW k d v != 0) = false := by simp [he]
    rw [if_neg (by simpa using he)]
    clear he
    by_cases hq : 72057594037927935 < s
    · rw [if_pos (.inl hq)]
      go_enter Tryz.func21, Tryz.ntmps21
      go_wp2_with (go_at_call 61; refine (ref_oneB k s d v w hk hv).mono ?_; rintro e w1 ⟨rfl, hb1, k1, k2, k3⟩; have HB : Hid (Below w.heap.size w w1) := hb1; clear hb1)
      go_ret
      exact ⟨rfl, HB.out⟩
    · cases d with
      | false =>
        rw [if_neg (by simp [hq])]
        go_enter Tryz.func21, Tryz.ntmps21
        go_wp2_with (go_at_call 61; refine (ref_oneB k s false v w hk hv).mono ?_; rintro e w1 ⟨rfl, hb1, k1, k2, k3⟩; have HB : Hid (Below w.heap.size w w1) := hb1; clear hb1)
        go_ret
        exact ⟨rfl, HB.out⟩
      | true =>
        by_cases hv0 : v.size = 0
        · rw [if_neg (by simp [hq, hv0])]
          have hv1 := size0 hv0
          subst hv1
          go_enter Tryz.func21, Tryz.ntmps21
          go_wp2_with (go_at_call 61; refine (ref_oneB k s true _ w hk hv).mono ?_; rintro e w1 ⟨rfl, hb1, k1, k2, k3⟩; have HB : Hid (Below w.heap.size w w1) := hb1; clear hb1)
          go_ret
          exact ⟨rfl, HB.out⟩
        · rw [if_pos (.inr ⟨rfl, hv0⟩)]
          have hne : (!v.toList.isEmpty) = true := by
            rw [Lib.toList_data]
            have hlen : v.data.toList.length = v.size := by simp
            cases hd : v.data.toList with
            | nil => rw [hd] at hlen; simp at hlen; omega
            | cons _ _ => rfl
          go_enter Tryz.func21, Tryz.ntmps21
          go_wp2_with (go_at_call 61; refine (ref_oneB k s true v w hk hv).mono ?_; rintro e w1 ⟨rfl, hb1, k1, k2, k3⟩; have HB : Hid (Below w.heap.size w w1) := hb1; clear hb1)
          go_ret
          exact ⟨rfl, HB.out⟩
  · have g0 : (Chk.errW k d v != 0) = true := by simp [he]
    rw [if_pos he]
    clear he
    go_enter Tryz.func21, Tryz.ntmps21
    go_wp2_with (go_at_call 61; refine (ref_oneB k s d v w hk hv).mono ?_; rintro e w1 ⟨rfl, hb1, k1, k2, k3⟩; have HB : Hid (Below w.heap.size w w1) := hb1; clear hb1)
    go_ret
    exact ⟨rfl, HB.out⟩
set_option maxHeartbeats 1000000 in
theorem add_fault (t : Nat) (T : Nat → Nat) (w : World) (M : Nat) (r : Int) (S : St) (k : ByteArray) (s : Nat) (d : Bool) (x : ByteArray) (p : MakerAt t T w M r S) (hi : Hi T w) (ht : t ≠ 0) (hk : k.size ≤ 9223372036854775807) (hx : x.size ≤ 9223372036854775807) (hf : ¬ fault (k, (s : Int), d, x) = 0) (hb : S.b.length ≤ 4000000000) (hp : S.p.length ≤ 10000000000) (hn : S.n ≤ 1000000000000) (hr : -9223372036854775808 ≤ r ∧ r ≤ 9223372036854775807) :
    Calls Tryz.prog 8 #[.pointer (some ⟨M, 0, none⟩), .agg #[.string k, .int .u64 (s : Int), .bool d, .string x]] w fun e w' => AddIs t T w M r S (k, (s : Int), d, x) e w' := by
  have HB1 : Hid (Below w.heap.size w (w.alloc (.cells #[.string k, .int .u64 (s : Int), .bool d, .string x] 54))) := (Below.refl _ _).alloc (Nat.le_refl _) _
  have HE1 : Hid (∀ j, (w.alloc (.cells #[.string k, .int .u64 (s : Int), .bool d, .string x] 54)).cell? ⟨w.heap.size, j, none⟩ = (#[Value.string k, .int .u64 (s : Int), .bool d, .string x])[j]?) := fun j => by show _ = _; rw [World.cell?_alloc_at _ _ _ _ rfl]
  have HL1 : Hid (w.heap.size < (w.alloc (.cells #[.string k, .int .u64 (s : Int), .bool d, .string x] 54)).heap.size) := by show _ < _; simp
  have HP : Hid (MakerAt t T w M r S) := p
  have HI : Hid (Hi T w) := hi
  have hlt := p.lt
  clear p hi
  have hE0 : (w.alloc (.cells #[.string k, .int .u64 (s : Int), .bool d, .string x] 54)).cell? ⟨w.heap.size, 0, none⟩ = some (.string k) := HE1.out 0
  have hE1 : (w.alloc (.cells #[.string k, .int .u64 (s : Int), .bool d, .string x] 54)).cell? ⟨w.heap.size, 1, none⟩ = some (.int .u64 (s : Int)) := HE1.out 1
  have hE2 : (w.alloc (.cells #[.string k, .int .u64 (s : Int), .bool d, .string x] 54)).cell? ⟨w.heap.size, 2, none⟩ = some (.bool d) := HE1.out 2
  have hE3 : (w.alloc (.cells #[.string k, .int .u64 (s : Int), .bool d, .string x] 54)).cell? ⟨w.heap.size, 3, none⟩ = some (.string x) := HE1.out 3
  have g0 : (fault (k, (s : Int), d, x) != 0) = true := by simp [hf]
  go_enter Tryz.func8, Tryz.ntmps8
  go_wp2_with (go_at_call 23; go_loud (refine (checkEntry_anyB k (s : Int) d x _ hk hx).mono ?_; rintro e w2 ⟨rfl, hb2⟩; have HB2 : Hid (Below w.heap.size w w2) := HB1.out.trans (hb2.mono (Nat.le_of_lt HL1.out)); have e0 := (hb2.cell (p := ⟨w.heap.size, 0, none⟩) HL1.out).trans hE0; have e1 := (hb2.cell (p := ⟨w.heap.size, 1, none⟩) HL1.out).trans hE1; have e2 := (hb2.cell (p := ⟨w.heap.size, 2, none⟩) HL1.out).trans hE2; have e3 := (hb2.cell (p := ⟨w.heap.size, 3, none⟩) HL1.out).trans hE3; have HEL : Hid (w.heap.size < w2.heap.size) := Nat.lt_of_lt_of_le HL1.out hb2.size; clear hb2 hE0 hE1 hE2 hE3))
  go_ret
  have ha : adds S.last (k, (s : Int), d, x) = fault (k, (s : Int), d, x) := by unfold adds; rw [if_pos hf]
  refine ⟨T, by rw [ha]; rfl, ?_, Goes.below HB2.out⟩
  rw [ha, if_neg hf]
  exact HP.out.below HB2.out
set_option maxHeartbeats 1000000 in
theorem refAdds_fault (a : Option Addr) (cap n : Nat) (l : List En) (k : ByteArray) (s : Int) (d : Bool) (x : ByteArray) (w : World) (hl : Erw.IsE w a l) (hn : n = l.length) (hm : n ≤ 1000000) (hk : k.size ≤ 9223372036854775807) (hx : x.size ≤ 9223372036854775807) (hf : ¬ fault (k, s, d, x) = 0) (hls : (lastK l).size ≤ 1000000) :
    Calls Tryz.prog 6 #[.slice a n cap, .agg #[.string k, .int .u64 s, .bool d, .string x]] w fun e w' => e = .returned (.int .i64 (adds (lastK l) (k, s, d, x))) ∧ Below w.heap.size w w' := by
  have HB1 : Hid (Below w.heap.size w (w.alloc (.cells #[.string k, .int .u64 s, .bool d, .string x] 54))) := (Below.refl _ _).alloc (Nat.le_refl _) _
  have hE0 : (w.alloc (.cells #[.string k, .int .u64 s, .bool d, .string x] 54)).cell? ⟨w.heap.size, 0, none⟩ = some (.string k) := by simp
  have HL1 : Hid (w.heap.size < (w.alloc (.cells #[.string k, .int .u64 s, .bool d, .string x] 54)).heap.size) := by show _ < _; simp
  have HFA : Hid (∀ W, Calls Tryz.prog 21 #[.agg #[.string k, .int .u64 s, .bool d, .string x]] W fun e w' => e = .returned (.int .i64 (fault (k, s, d, x))) ∧ Below W.heap.size W w') := fun W => refFault_anyB k s d x W hk hx
  have hal : adds (lastK l) (k, s, d, x) = fault (k, s, d, x) := by unfold adds; rw [if_pos hf]
  have g0 : (fault (k, s, d, x) == 0) = false := by rw [beq_eq_false_iff_ne]; exact hf
  rw [hal]
  go_enter Tryz.func6, Tryz.ntmps6
  go_wp2_with (go_at_call 21; refine (HFA.out _).mono ?_; rintro e w2 ⟨rfl, hb2⟩; have HB2 : Hid (Below w.heap.size w w2) := HB1.out.trans (hb2.mono (Nat.le_of_lt HL1.out)); clear hb2 hE0)
  go_big_region
  go_wp2
  go_ret
  exact ⟨rfl, HB2.out.drew⟩
theorem ok_sizes {k : ByteArray} {s : Int} {d : Bool} {x : ByteArray} (hf : fault (k, s, d, x) = 0) : k.size ≤ 1000000 ∧ x.size ≤ 1000000 := by
  have h := fault_ok hf
  have h1 : k.size ≤ 64 := h.k2
  refine ⟨by omega, ?_⟩
  cases d with
  | false => have : x.size ≤ 512 := h.v rfl; omega
  | true => have : x.size = 0 := h.d rfl; omega
/-- Add of any entry. -/
theorem add_all (t : Nat) (T : Nat → Nat) (w : World) (M : Nat) (r : Int) (S : St) (k : ByteArray) (s : Nat) (d : Bool) (x : ByteArray) (p : MakerAt t T w M r S) (hi : Hi T w) (ht : t ≠ 0) (hk : k.size ≤ 9223372036854775807) (hx : x.size ≤ 9223372036854775807) (hb : S.b.length ≤ 4000000000) (hp : S.p.length ≤ 10000000000) (hn : S.n ≤ 1000000000000) (hr : -9223372036854775808 ≤ r ∧ r ≤ 9223372036854775807) :
    Calls Tryz.prog 8 #[.pointer (some ⟨M, 0, none⟩), .agg #[.string k, .int .u64 (s : Int), .bool d, .string x]] w fun e w' => AddIs t T w M r S (k, (s : Int), d, x) e w' := by
  by_cases hf : fault (k, (s : Int), d, x) = 0
  · exact add_any t T w M r S k s d x p hi ht (ok_sizes hf).1 (ok_sizes hf).2 hb hp hn hr
  · exact add_fault t T w M r S k s d x p hi ht hk hx hf hb hp hn hr
/-- The document's Adds of any entry. -/
theorem refAdds_all (a : Option Addr) (cap n : Nat) (l : List En) (k : ByteArray) (s : Int) (d : Bool) (x : ByteArray) (w : World) (hl : Erw.IsE w a l) (hn : n = l.length) (hm : n ≤ 1000000) (hk : k.size ≤ 9223372036854775807) (hx : x.size ≤ 9223372036854775807) (hls : (lastK l).size ≤ 1000000) :
    Calls Tryz.prog 6 #[.slice a n cap, .agg #[.string k, .int .u64 s, .bool d, .string x]] w fun e w' => e = .returned (.int .i64 (adds (lastK l) (k, s, d, x))) ∧ Below w.heap.size w w' := by
  by_cases hf : fault (k, s, d, x) = 0
  · exact refAdds_any a cap n l k s d x w hl hn hm (ok_sizes hf).1 (ok_sizes hf).2 hls
  · exact refAdds_fault a cap n l k s d x w hl hn hm hk hx hf hls
end Qb
end Go.Proofs.YtjnmklbhhlfhcaaGreatDoor
