import Derived.Test.YtkebbmdghnplmaaDoorQv2
namespace Go.Proofs.YtkebbmdghnplmaaDoor
namespace BlockOpens
open Go.RowKit Go.Shelf CMath Byt Laws Irw Crw Cod Qb Qt Tsr Qv
set_option linter.unusedVariables false
set_option linter.unusedSimpArgs false
set_option maxRecDepth 100000
set_option maxHeartbeats 1000000 in
theorem walk (w : World) (ht : Tab w) (a : Option Addr) (cap N : Nat) (l : List Nat) (hi : IsB w a l) (hn : a = none → cap = 0) (hN : l.length = N) (hc : N ≤ cap) (hm : cap ≤ 9223372036854775807)
    (ka : Option Addr) (kc KN : Nat) (ks : List ByteArray) (hKN : ks.length = KN) (hkx : (KN : Int) ≤ 9223372036854775807) (hk : IsT w ka ks) (hks : ∀ s ∈ ks, s.size ≤ maxLen) (nn : Int) :
    Calls Tryd.prog 3 #[.slice a N cap, .slice ka KN kc, .int .i64 nn] w fun e w' => e = .returned (.bool true) ∧ Below w.heap.size w w' := by
  by_cases h1 : 32768 < N
  · have q1 : (32768 : Int) < (N : Int) := by omega
    clear hi hn hN hc hm hKN hk hks h1
    go_enter Tryd.func3, Tryd.ntmps3
    go_wp2
    go_ret
    exact ⟨rfl, Below.refl _ _⟩
  · have q1 : (N : Int) ≤ 32768 := by omega
    by_cases h2 : 40 < KN
    · have q2 : (40 : Int) < (KN : Int) := by omega
      clear hi hn hN hc hm hKN hk hks h1 h2
      go_enter Tryd.func3, Tryd.ntmps3
      go_wp2
      go_ret
      exact ⟨rfl, Below.refl _ _⟩
    · have q2 : (KN : Int) ≤ 40 := by omega
      have HOP : Hid (Calls Tryd.prog 6 #[.slice a N cap, .slice ka KN kc, .int .i64 nn] w fun e w' => e = .returned (.bool true) ∧ Below w.heap.size w w') := opens_any w ht a cap N l hi hn hN hc hm (by omega) ka kc KN ks hKN q2 hk hks nn
      clear hi hn hN hc hm hKN hk hks h1 h2
      go_enter Tryd.func3, Tryd.ntmps3
      go_wp2_with (go_at_call 6; go_loud (refine HOP.out.mono ?_; rintro e w1 ⟨rfl, hb1⟩; have HB1 : Hid (Below w.heap.size w w1) := hb1; clear hb1))
      go_ret
      exact ⟨rfl, HB1.out⟩
end BlockOpens
end Go.Proofs.YtkebbmdghnplmaaDoor
