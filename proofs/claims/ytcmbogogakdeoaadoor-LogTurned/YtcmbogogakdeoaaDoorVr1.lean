import Derived.Test.YtcmbogogakdeoaaDoorLa1
import Derived.Test.YtcmbogogakdeoaaDoorLgS
import Derived.Deep.QuietTactic
import Derived.BigQuiet
import Derived.Lib.MinMax
namespace Go.Proofs.YtcmbogogakdeoaaDoor
namespace Lgr
open Go.RowKit CMath Byt Cod Lg Lga Laws
set_option linter.unusedVariables false
set_option linter.unusedSimpArgs false
set_option maxRecDepth 20000

theorem or4' {a b c d : Nat} (ha : a < 256) (hb : b < 256) (hc : c < 256) (hd : d < 256) :
    bits .or .u32 (bits .or .u32 (bits .or .u32 (a : Int) ((b : Int) * 256)) ((c : Int) * 65536)) ((d : Int) * 16777216) = ((a + 256 * b + 65536 * c + 16777216 * d : Nat) : Int) := by
  have o1 : a ||| b * 256 = a + 256 * b := by
    have := Nat.two_pow_add_eq_or_of_lt (i := 8) (b := a) (by omega) b
    rw [Nat.or_comm, Nat.mul_comm b, ← show 2 ^ 8 * b = 256 * b from rfl, ← this]; omega
  have o2 : (a + 256 * b) ||| c * 65536 = a + 256 * b + 65536 * c := by
    have := Nat.two_pow_add_eq_or_of_lt (i := 16) (b := a + 256 * b) (by omega) c
    rw [Nat.or_comm, Nat.mul_comm c, ← show 2 ^ 16 * c = 65536 * c from rfl, ← this]; omega
  have o3 : (a + 256 * b + 65536 * c) ||| d * 16777216 = a + 256 * b + 65536 * c + 16777216 * d := by
    have := Nat.two_pow_add_eq_or_of_lt (i := 24) (b := a + 256 * b + 65536 * c) (by omega) d
    rw [Nat.or_comm, Nat.mul_comm d, ← show 2 ^ 24 * d = 16777216 * d from rfl, ← this]; omega
  rw [show (b : Int) * 256 = ((b * 256 : Nat) : Int) by omega, show (c : Int) * 65536 = ((c * 65536 : Nat) : Int) by omega, show (d : Int) * 16777216 = ((d * 16777216 : Nat) : Int) by omega]
  rw [u32_or_nat a (b * 256) (by omega) (by omega), o1, u32_or_nat (a + 256 * b) (c * 65536) (by omega) (by omega), o2, u32_or_nat (a + 256 * b + 65536 * c) (d * 16777216) (by omega) (by omega), o3]
set_option maxHeartbeats 1000000 in
theorem laidSum_any (b off cap : Nat) (l : List Nat) (w : World) (hr : BRow w b off l) (hb : ∀ x ∈ l, x < 256) (hl : l.length = 7) :
    Calls Tryd.prog 36 #[.slice (some ⟨b, off, none⟩) 7 cap] w fun e w' => e = .returned (.int .u32 ((val (l.take 4) : Nat) : Int)) ∧ ∃ n, w' = w.drewN n := by
  match l, hl with
  | [x0, x1, x2, x3, x4, x5, x6], _ =>
    have h0 : x0 < 256 := hb x0 (by simp)
    have h1 : x1 < 256 := hb x1 (by simp)
    have h2 : x2 < 256 := hb x2 (by simp)
    have h3 : x3 < 256 := hb x3 (by simp)
    have c0 := hr.2 0 x0 rfl
    have c1 := hr.2 1 x1 rfl
    have c2 := hr.2 2 x2 rfl
    have c3 := hr.2 3 x3 rfl
    simp only [Nat.add_zero] at c0
    have HV : Hid (val ([x0, x1, x2, x3, x4, x5, x6].take 4) = x0 + 256 * x1 + 65536 * x2 + 16777216 * x3) := by
      show _ = _
      simp only [List.take_succ_cons, List.take_zero, val]
      omega
    have HE := or4' h0 h1 h2 h3
    have HE' : Hid (bits .or .u32 (bits .or .u32 (bits .or .u32 (x0 : Int) ((x1 : Int) * 256)) ((x2 : Int) * 65536)) ((x3 : Int) * 16777216) = ((x0 + 256 * x1 + 65536 * x2 + 16777216 * x3 : Nat) : Int)) := HE
    clear hr HE hb
    go_enter Tryd.func36, Tryd.ntmps36
    go_wp2
    go_quiet (fail)
    go_wp2
    go_ret
    rw [HV.out, ← HE'.out]
    exact ⟨by first | rfl | (simp; done), _, rfl⟩

def right (n room : Nat) (begun ends : Bool) : Bool := if ends then decide (n ≤ room ∧ (0 < n ∨ begun = false)) else decide (n = room)
set_option maxHeartbeats 1000000 in
theorem right_any (n room : Nat) (begun ends : Bool) (w : World) :
    Calls Tryd.prog 35 #[.int .i64 (n : Int), .int .i64 (room : Int), .bool begun, .bool ends] w fun e w' => e = .returned (.bool (right n room begun ends)) ∧ w' = w := by
  cases ends with
  | false =>
    by_cases h : n = room
    · subst h
      have e : right n n begun false = true := by simp [right]
      rw [e]
      go_enter Tryd.func35, Tryd.ntmps35
      go_wp2
      go_ret
      exact ⟨by simp, rfl⟩
    · have e : right n room begun false = false := by simp [right, h]
      have q1 : ((n : Int) == (room : Int)) = false := by simp; omega
      have q2 : ¬ (n : Int) = (room : Int) := by omega
      rw [e]
      go_enter Tryd.func35, Tryd.ntmps35
      go_wp2
      go_ret
      exact ⟨by simp, rfl⟩
  | true =>
    by_cases h : n ≤ room
    · have q1 : (n : Int) ≤ (room : Int) := by omega
      by_cases h0 : 0 < n
      · have e : right n room begun true = true := by simp [right, h, h0]
        have q2 : (0 : Int) < (n : Int) := by omega
        rw [e]
        go_enter Tryd.func35, Tryd.ntmps35
        go_wp2
        go_ret
        exact ⟨by simp, rfl⟩
      · obtain rfl : n = 0 := by omega
        have e : right 0 room begun true = !begun := by cases begun <;> simp [right]
        rw [e]
        go_enter Tryd.func35, Tryd.ntmps35
        go_wp2
        go_ret
        exact ⟨by cases begun <;> simp, rfl⟩
    · have e : right n room begun true = false := by simp [right, h]
      have q1 : ¬ (n : Int) ≤ (room : Int) := by omega
      rw [e]
      go_enter Tryd.func35, Tryd.ntmps35
      go_wp2
      go_ret
      exact ⟨by simp, rfl⟩

theorem zs_of {l : List Nat} {n B : Nat} (hB : 512 - n % 512 = B) (h8 : B < 8) (hL : n + B ≤ l.length) (h : ∀ i, i < B → l[n + i]? = some 0) : Zs l n := by
  intro _
  rw [hB]
  have e : (l.drop n).take B = zer B := by
    refine List.ext_getElem? fun i => ?_
    by_cases hi : i < B
    · rw [List.getElem?_take_of_lt hi, List.getElem?_drop, h i hi]
      simp [zer, hi]
    · rw [List.getElem?_eq_none (by simp; omega), List.getElem?_eq_none (by simp [zer]; omega)]
  rw [← e]
  exact List.take_prefix _ _
theorem zs_not {l : List Nat} {n B i x : Nat} (hB : 512 - n % 512 = B) (h8 : B < 8) (hi : i < B) (hx : l[n + i]? = some x) (h0 : x ≠ 0) : ¬ Zs l n := by
  intro hz
  obtain ⟨t, ht⟩ := hz (by omega)
  rw [hB] at ht
  have : (l.drop n)[i]? = some x := by rw [List.getElem?_drop]; exact hx
  rw [← ht, List.getElem?_append_left (by simp [zer]; exact hi)] at this
  simp [zer, hi] at this
  omega
/-- what passZeros answers -/
def PzIs (l : List Nat) (n : Nat) (x : Int) (o : Bool) : Prop := (o = true → x = (beg n : Nat) ∧ (Zs l n ∨ l.length < beg n)) ∧ (o = false → ¬ Zs l n)
def PzAns (l : List Nat) (n : Nat) (w : World) (e : Ending) (w' : World) : Prop := ∃ (x : Int) (o : Bool), e = .returned (.tuple #[.int .i64 x, .bool o]) ∧ PzIs l n x o ∧ w' = w
set_option maxHeartbeats 1000000 in
theorem passZeros_any (cap L n : Nat) (l : List Nat) (w : World) (a : Option Addr) (ha : IsB w a l) (hL : L = l.length) (hn : n ≤ L) (hcap : L ≤ cap) (hmx : L ≤ 4611686018427387904) :
    Calls Tryd.prog 26 #[.slice a L cap, .int .i64 (n : Int)] w fun e w' => PzAns l n w e w' := by
  obtain ⟨B, hB⟩ : ∃ B, 512 - n % 512 = B := ⟨_, rfl⟩
  have HBL := fun W => blockLeft_any n (n : Int) W rfl (by omega)
  rw [hB] at HBL
  have HBB : Hid (∀ W, Calls Tryd.prog 20 #[.int .i64 (n : Int)] W fun e w' => e = .returned (.int .i64 (B : Int)) ∧ w' = W) := HBL
  clear HBL
  by_cases h8 : B < 8
  · have q1 : ¬ (8 : Int) ≤ (B : Int) := by omega
    have hne : l ≠ [] := by intro e; rw [e] at hL; simp at hL; omega
    obtain ⟨b, off, rfl, hr⟩ := ha.1 hne
    have HR : Hid (BRow w b off l) := hr
    have HBY : Hid (∀ x ∈ l, x < 256) := ha.2
    have hbg : beg n = n + B := by unfold beg; rw [hB, if_pos h8]
    obtain ⟨E, hE⟩ : ∃ E : Nat, min ((n : Int) + (B : Int)) (L : Int) = (E : Int) := ⟨min (n + B) L, by omega⟩
    have hE3 : E ≤ n + B ∧ E ≤ L ∧ (E = n + B ∨ E = L) := by omega
    have HE2 : Hid (E ≤ n + B ∧ E ≤ L ∧ (E = n + B ∨ E = L)) := hE3
    have HLL : Hid (L = l.length) := hL
    clear hr ha hne hL
    have q2 : (n : Int) ≤ (E : Int) := by omega
    have q3 : (E : Int) ≤ (cap : Int) := by omega
    have hnE : n ≤ E := by omega
    clear hE3
    by_cases hcn : cap = n
    · have hE3 := HE2.out
      obtain rfl : L = n := by omega
      obtain rfl : cap = L := by omega
      obtain rfl : E = cap := by omega
      clear hE3
      go_enter Tryd.func26, Tryd.ntmps26
      go_wp2_with (go_at_call 20; refine (HBB.out _).mono ?_; rintro e w1 ⟨rfl, hw1⟩; obtain rfl := hw1.symm)
      go_loopw [24] (fun i wr => i = .int .i64 0 ∧ wr = w) (fun _ _ => 0)
      case atStart => exact ⟨rfl, rfl⟩
      case round =>
        obtain ⟨rfl, hwr⟩ := hrel
        obtain rfl := hwr.symm
        go_wp2
        go_ret2
        exact ⟨_, _, rfl, ⟨fun _ => ⟨by rw [hbg]; go_num, .inr (by rw [hbg, ← HLL.out]; omega)⟩, by simp⟩, rfl⟩
    · have q4 : n < cap := by omega
      have q5 : (n : Int) < (cap : Int) := by omega
      have q6 : ¬ cap - n = 0 := by omega
      obtain ⟨M, hM⟩ : ∃ M, E - n = M := ⟨_, rfl⟩
      have hM2 : (E : Int) - (n : Int) = (M : Int) := by omega
      go_enter Tryd.func26, Tryd.ntmps26
      go_wp2_with (go_at_call 20; refine (HBB.out _).mono ?_; rintro e w1 ⟨rfl, hw1⟩; obtain rfl := hw1.symm)
      go_loopw [24] (fun i wr => ∃ k : Nat, k ≤ M ∧ i = .int .i64 (k : Int) ∧ Hid (∀ j, j < k → l[n + j]? = some 0) ∧ wr = w) (fun i _ => M - (intOf i).toNat)
      case atStart => exact ⟨0, Nat.zero_le _, rfl, fun j hj => by omega, rfl⟩
      case round =>
        obtain ⟨k, hk, rfl, HZ, hwr⟩ := hrel
        obtain rfl := hwr.symm
        by_cases hlt : k < M
        · have q7 : (k : Int) < (M : Int) := by omega
          have hkl : n + k < l.length := by rw [← HLL.out]; have := HE2.out; omega
          obtain ⟨x, hx⟩ : ∃ x, l[n + k]? = some x := ⟨_, List.getElem?_eq_getElem hkl⟩
          have c0 := HR.out.2 (n + k) x hx
          rw [← Nat.add_assoc] at c0
          have HX : Hid (l[n + k]? = some x) := hx
          clear hx hkl
          by_cases hx0 : x = 0
          · subst hx0
            have HZ2 : Hid (∀ j, j < k + 1 → l[n + j]? = some 0) := fun j hj => by
              rcases Nat.lt_or_ge j k with h | h
              · exact HZ.out j h
              · obtain rfl : j = k := by omega
                exact HX.out
            go_wp2
            go_roundw
            case rel => exact ⟨k + 1, by omega, by go_num, HZ2, trivial⟩
            case measure => simp [intOf]; omega
          · have q8 : ¬ (x : Int) = 0 := by omega
            have q9 : ((x : Int) != 0) = true := by simp; omega
            go_wp2
            go_ret2
            exact ⟨_, _, rfl, ⟨by simp, fun _ => zs_not hB h8 (by have := HE2.out; omega) HX.out hx0⟩, rfl⟩
        · obtain rfl : k = M := by omega
          have q7 : ¬ (k : Int) < (k : Int) := by omega
          go_wp2
          go_ret2
          refine ⟨_, _, rfl, ⟨fun _ => ⟨by rw [hbg]; go_num, ?_⟩, by simp⟩, rfl⟩
          have hL := HLL.out
          have hE3 := HE2.out
          by_cases hfit : n + B ≤ l.length
          · exact .inl (zs_of hB h8 hfit (fun i hi => HZ.out i (by omega)))
          · exact .inr (by rw [hbg]; omega)
  · have q1 : (8 : Int) ≤ (B : Int) := by omega
    have hbg : beg n = n := by unfold beg; rw [hB, if_neg h8]
    go_enter Tryd.func26, Tryd.ntmps26
    go_wp2_with (go_at_call 20; refine (HBB.out _).mono ?_; rintro e w1 ⟨rfl, hw1⟩; obtain rfl := hw1.symm)
    go_ret2
    exact ⟨_, _, rfl, ⟨fun _ => ⟨by rw [hbg], .inl (fun h => absurd h (by omega))⟩, by simp⟩, rfl⟩

end Lgr
end Go.Proofs.YtcmbogogakdeoaaDoor
