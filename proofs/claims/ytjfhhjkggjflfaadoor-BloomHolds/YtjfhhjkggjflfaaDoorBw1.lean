import Derived.Test.YtjfhhjkggjflfaaDoorBk1
namespace Go.Proofs.YtjfhhjkggjflfaaDoor
namespace BloomHolds
open Go.RowKit CMath Byt Cod Laws Tsr BMath Blo Blk
set_option linter.unusedVariables false
set_option maxRecDepth 20000

set_option maxHeartbeats 1000000 in
theorem walk (a : Option Addr) (cap : Nat) (ks : List ByteArray) (b : Int) (w : World) (h : IsT w a ks) (hc : a = none → cap = 0) (hcap : ks.length ≤ cap) (hmx : cap ≤ 9223372036854775807) (hsz : ∀ s ∈ ks, s.size ≤ 9223372036854775807) (hb : -9223372036854775808 ≤ b ∧ b ≤ 9223372036854775807) (ht : Tab w) :
    Calls Tryd.prog 5 #[.slice a ks.length cap, .int .i64 b] w fun e w' => e = .returned (.bool true) ∧ Below w.heap.size w w' := by
  obtain ⟨ts, hts⟩ : ∃ ts, ks.take 4000 = ts := ⟨_, rfl⟩
  have hlen : min ks.length 4000 = ts.length := by rw [← hts, List.length_take]; omega
  have HI : Hid (IsT w a ts) := by rw [← hts]; exact h.take 4000
  have HS : Hid (∀ s ∈ ts, s.size ≤ 9223372036854775807) := fun s hs => hsz s (by rw [← hts] at hs; exact List.mem_of_mem_take hs)
  have HT : Hid (Tab w) := ht
  have HC : Hid (a = none → cap = 0) := hc
  have hl4 : ts.length ≤ 4000 := by omega
  clear h ht hsz hc
  go_enter Tryd.func5, Tryd.ntmps5
  go_wp2_with fail
  refine (known_any w HT.out).mono ?_
  rintro e w1 ⟨rfl, hb1⟩
  have HB1 : Hid (Below w.heap.size w w1) := hb1
  clear hb1
  go_wp2_with fail
  refine (some_any a cap ks.length w1 HC.out hcap hmx).mono ?_
  rintro e w' ⟨rfl, rfl⟩
  rw [hlen]
  go_wp2_with fail
  refine (make_any a cap ts.length ts b w' (HI.out.below HB1.out) (HT.out.below HB1.out HT.out.lt) hb (by omega) HS.out rfl).mono ?_
  rintro e w2 ⟨a2, c2, rfl, hn2, hb2⟩
  have HN : Hid (New 5 w'.heap.size w2 a2 c2 (mk (ts.map strB) b)) := hn2
  have HB2 : Hid (Below w.heap.size w w2) := HB1.out.trans (hb2.mono HB1.out.size)
  have hml := mk_length_le (ts.map strB) b
  have HMM : Hid (∀ s ∈ ts, may (mk (ts.map strB) b) (strB s) = true) := fun s hs => may_mk b (List.mem_map.2 ⟨s, hs, rfl⟩)
  have hnil := mk_nil (ts.map strB) b
  rw [List.map_eq_nil_iff, ← List.length_eq_zero_iff (l := ts)] at hnil
  clear hn2 hb2
  generalize mk (ts.map strB) b = F at *
  go_wp2_with fail
  go_loopw [6] (fun i wr => ∃ k : Nat, k ≤ ts.length ∧ i = .int .i64 k ∧ Below w2.heap.size w2 wr) (fun i _ => ts.length - (intOf i).toNat)
  case atStart => exact ⟨0, Nat.zero_le _, rfl, Below.refl _ _⟩
  case round =>
    obtain ⟨k, hk, rfl, hbw⟩ := hrel
    have HBW : Hid (Below w2.heap.size w2 wr) := hbw
    have HBA : Hid (Below w.heap.size w wr) := HB2.out.trans (hbw.mono HB2.out.size)
    clear hbw
    by_cases hlt : k < ts.length
    · obtain ⟨b1, o1, rfl, hr1⟩ := HI.out (by rintro rfl; simp at hlt)
      obtain ⟨x, hx⟩ : ∃ x, ts[k]? = some x := ⟨_, List.getElem?_eq_getElem hlt⟩
      have c0 := (hr1.below HBA.out hr1.1).2 k x hx
      have hxm := List.mem_of_getElem? hx
      have HX : Hid (may F (strB x) = true) := HMM.out x hxm
      have hxs := HS.out x hxm
      have q1 : (k : Int) < (ts.length : Int) := by omega
      clear hx hr1 hxm
      go_wp2_with fail
      refine (may_any a2 c2 F.length F x wr (HN.out.isB.below HBW.out) (HT.out.below HBA.out HT.out.lt) (by omega) hxs rfl).mono ?_
      rintro e w5 ⟨rfl, hb5⟩
      rw [HX.out]
      have HB5 : Hid (Below w2.heap.size w2 w5) := HBW.out.trans (hb5.mono HBW.out.size)
      clear hb5
      go_wp2_with fail
      go_roundw
      case rel => exact ⟨k + 1, by omega, by go_num, HB5.out⟩
      case measure => simp [intOf]; omega
    · obtain rfl : k = ts.length := by omega
      by_cases hF : F.length = 0
      · have hor := hnil.1 hF
        have q1 : (F.length : Int) = 0 := by omega
        by_cases hb1 : b < 1
        · go_wp2
          go_ret
          exact ⟨rfl, HBA.out⟩
        · have q2 : (ts.length : Int) = 0 := by rcases hor with h | h; exact absurd h hb1; omega
          go_wp2
          go_ret
          exact ⟨rfl, HBA.out⟩
      · have hor : ¬ (b < 1 ∨ ts.length = 0) := fun h => hF (hnil.2 h)
        have q1 : ((F.length : Int) == 0) = false := by rw [beq_eq_false_iff_ne]; omega
        have q2 : ¬ b < 1 := fun h => hor (.inl h)
        have q3 : ((ts.length : Int) == 0) = false := by
          have : ¬ ts.length = 0 := fun h => hor (.inr h)
          rw [beq_eq_false_iff_ne]; omega
        go_wp2
        go_ret
        exact ⟨rfl, HBA.out⟩
end BloomHolds
end Go.Proofs.YtjfhhjkggjflfaaDoor
