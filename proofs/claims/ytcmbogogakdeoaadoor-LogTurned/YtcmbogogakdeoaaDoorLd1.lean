import Derived.Test.YtcmbogogakdeoaaDoorSr1
import Derived.Test.YtcmbogogakdeoaaDoorLa2
import Derived.Test.YtcmbogogakdeoaaDoorLgB
namespace Go.Proofs.YtcmbogogakdeoaaDoor
namespace Lgl
open Go.RowKit CMath Byt Cod Lg Lga Lgr Laws Crw Irw
set_option linter.unusedVariables false
set_option linter.unusedSimpArgs false
set_option maxRecDepth 20000

theorem infoI : (Tryd.prog.info? 3).map (fun i => (i.zero, i.size, i.bytes)) = some (some (.int .i64 0), 1, 8) := by kernel_rfl
theorem undI : Tryd.prog.underlying 25 = some (.slice 3) := by kernel_rfl
def endsK (rs : List (List Nat)) (k : Nat) : List Value := (List.range k).map fun i => Value.int .i64 ((laidF [] (rs.take (i + 1))).length : Int)
theorem endsK_succ (rs : List (List Nat)) (k : Nat) : endsK rs (k + 1) = endsK rs k ++ [.int .i64 ((laidF [] (rs.take (k + 1))).length : Int)] := by simp [endsK, List.range_succ]
theorem laid_take {rs : List (List Nat)} {k : Nat} {r : List Nat} (h : rs[k]? = some r) : laidF [] (rs.take (k + 1)) = laidF [] (rs.take k) ++ app (laidF [] (rs.take k)).length r := by
  rw [List.take_add_one, h]
  simp [laidF]
def LdIs (w w' : World) (rs : List (List Nat)) (k : Nat) (vb ve : Value) : Prop := w'.ownsRow w.heap.size 5 1 vb (laidF [] (rs.take k)).length (cellsB (laidF [] (rs.take k))) ∧ w'.ownsRow w.heap.size 3 1 ve k (endsK rs k) ∧ Below w.heap.size w w'
def LdAns (w : World) (rs : List (List Nat)) (e : Ending) (w' : World) : Prop := (e = .returned (.tuple #[.slice none 0 0, .slice none 0 0, .bool false]) ∧ Below w.heap.size w w') ∨ ∃ vb ve, e = .returned (.tuple #[vb, ve, .bool true]) ∧ LdIs w w' rs rs.length vb ve ∧ (laidF [] rs).length ≤ 10000000 ∧ rs.length ≤ (laidF [] rs).length
theorem keepOwn {w w2 : World} {base : Nat} {e : TypeId} {sz n : Nat} {v : Value} {xs : List Value} {r : Option Nat} (h : w.ownsRow base e sz v n xs) (hg : w.grownBy w2 r) (hne : ∀ g, v.ownBlock = some g → r ≠ some g) : w2.ownsRow base e sz v n xs := by
  refine ⟨h.1, ?_⟩
  rcases h.2 with h1 | ⟨g, cap, cur, hv, hb, hh, hr⟩
  · exact .inl h1
  · have hv' : v.ownBlock = some g := by rw [hv]; rfl
    exact .inr ⟨g, cap, cur, hv, hb, (hg.block g (h.lt g hv').2 (fun e => hne g hv' e.symm)).trans hh, hr⟩
theorem own_ne {w : World} {b1 b2 s1 s2 n1 n2 : Nat} {e1 e2 : TypeId} {v1 v2 : Value} {xs1 xs2 : List Value} (h1 : w.ownsRow b1 e1 s1 v1 n1 xs1) (h2 : w.ownsRow b2 e2 s2 v2 n2 xs2) (he : e1 ≠ e2) : ∀ g, v1.ownBlock = some g → v2.ownBlock ≠ some g := by
  intro g hg1 hg2
  rcases h1.2 with ⟨e, _⟩ | ⟨g1, cap1, cur1, hv1, hb1, hh1, hr1⟩
  · rw [e] at hg1; cases hg1
  · rcases h2.2 with ⟨e, _⟩ | ⟨g2, cap2, cur2, hv2, hb2, hh2, hr2⟩
    · rw [e] at hg2; cases hg2
    · rw [hv1] at hg1
      rw [hv2] at hg2
      cases hg1
      cases hg2
      rw [hh1] at hh2
      cases hh2
      exact he rfl

set_option maxHeartbeats 2000000 in
theorem laid_any (a : Option Addr) (cap n : Nat) (rs : List (List Nat)) (w : World) (hC : IsD w a rs) (hn : n = rs.length) (hn6 : (n : Int) ≤ 9223372036854775807) (ht : Tab w) :
    Calls Tryd.prog 6 #[.slice a n cap] w fun e w' => LdAns w rs e w' := by
  obtain ⟨i8, hi8, hz0, hz1, hz2⟩ := info_parts info8
  obtain ⟨iI, hiI, hy0, hy1, hy2⟩ := info_parts infoI
  have HC : Hid (IsD w a rs) := hC
  have HN : Hid (rs.length = n) := hn.symm
  have HT : Hid (Tab w) := ht
  clear hC hn ht
  go_enter Tryd.func6, Tryd.ntmps6
  go_wp2
  go_loopw [5, 6, 7] (fun vb ve vi wr => ∃ (k L : Nat) (ab : Option Addr) (cb : Nat), k ≤ n ∧ vi = .int .i64 (k : Int) ∧ vb = .slice ab L cb ∧ L ≤ 10000000 ∧ k ≤ L ∧ Hid ((laidF [] (rs.take k)).length = L ∧ (∀ x ∈ laidF [] (rs.take k), x < 256) ∧ LdIs w wr rs k vb ve)) (fun _ _ vi _ => n - (intOf vi).toNat)
  case atStart => exact ⟨0, 0, none, 0, Nat.zero_le _, rfl, rfl, Nat.zero_le _, Nat.le_refl _, by simp [laidF], by simp [laidF], World.ownsRow_nil _ _ _ _, World.ownsRow_nil _ _ _ _, Below.refl _ _⟩
  case round =>
    obtain ⟨k, L, ab, cb, hk, rfl, rfl, hL, hkL, HX⟩ := hrel
    rename World => wr
    by_cases hlt : k < n
    · have q1 : (k : Int) < (n : Int) := by omega
      have hkl : k < rs.length := by rw [HN.out]; exact hlt
      obtain ⟨b, off, ad, c, rfl, hbs, c0, hib, hc0, hl0, hm0⟩ := (HC.out.below HX.out.2.2.2.2).rd hkl
      have HXK : Hid (rs[k]? = some (rs.getD k [])) := by show _ = _; simp [hkl]
      have HIB : Hid (IsB wr ad (rs.getD k []) ∧ (ad = none → c = 0) ∧ (rs.getD k []).length ≤ c) := ⟨hib, hc0, hl0⟩
      clear hib hc0 hl0 hkl
      generalize rs.getD k [] = r at *
      by_cases h1 : 65536 < L
      · have q2 : (65536 : Int) < (L : Int) := by omega
        go_wp2
        go_ret3
        exact .inl ⟨rfl, HX.out.2.2.2.2⟩
      · have q2 : ¬ (65536 : Int) < (L : Int) := by omega
        by_cases h2 : 65536 < r.length
        · have q3 : (65536 : Int) < (r.length : Int) := by omega
          go_wp2
          go_ret3
          exact .inl ⟨rfl, HX.out.2.2.2.2⟩
        · have q3 : ¬ (65536 : Int) < (r.length : Int) := by omega
          have hal := (app_length L r).1
          have hap := app_pos L r
          have HAP : Hid (Calls Tryd.prog 13 #[.int .i64 (L : Int), .slice ad r.length c] wr fun e w' => ∃ v, e = .returned v ∧ Own 5 wr.heap.size w' v (app L r) ∧ Below wr.heap.size wr w') := by
            have hh := append_any (L : Int) ad c r.length r wr HIB.out.1 HIB.out.2.1 HIB.out.2.2 hm0 (HT.out.below HX.out.2.2.2.2 HT.out.lt) rfl (by omega) (by omega)
            rw [Int.toNat_natCast] at hh
            exact hh
          have HLT : Hid (laidF [] (rs.take (k + 1)) = laidF [] (rs.take k) ++ app L r) := by show _ = _; rw [laid_take HXK.out, HX.out.1]
          obtain ⟨A, hA⟩ : ∃ A, app L r = A := ⟨_, rfl⟩
          rw [hA] at HAP HLT hal hap
          have HAB : Hid (∀ x ∈ A, x < 256) := by show ∀ x ∈ A, x < 256; rw [← hA]; exact app_byte HIB.out.1.2
          clear hA
          go_wp2_with fail
          refine HAP.out.mono ?_
          rintro e w2 ⟨v2, rfl, ho2, hb2⟩
          obtain ⟨a2, c2, rfl, hn2⟩ := New.ofOwn ho2
          have HO2 : Hid (New 5 wr.heap.size w2 a2 c2 A ∧ Below wr.heap.size wr w2) := ⟨hn2, hb2⟩
          have hs2 := hb2.size
          have hs1 := HX.out.2.2.2.2.size
          have HB : Hid (w2.ownsRow w.heap.size 5 1 (.slice ab L cb) L (cellsB (laidF [] (rs.take k))) ∧ w2.ownsRow w.heap.size 3 1 u6 k (endsK rs k) ∧ Below w.heap.size w w2) := ⟨by have h := own_below HX.out.2.2.1 hb2; rw [HX.out.1] at h; exact h, own_below HX.out.2.2.2.1 hb2, HX.out.2.2.2.2.trans (hb2.mono hs1)⟩
          clear ho2 hb2 hn2
          go_wp2_with (first
            | (at_builtin; refine wpList_appB (by rfl) (.tmp 25) (.tmp 32) 23 (by rfl) w.heap.size 5 i8 Tryd.underlying23 hi8 hz0 hz1 hz2 _ (laidF [] (rs.take k)) L (by rfl) HB.out.1 a2 _ c2 A (by rfl) rfl HO2.out.1.cap HO2.out.1.isB (by omega) (by omega) ?_; intro v3 w3 hown3 hgr3 _; rw [← HLT.out] at hown3; obtain ⟨a3, c3, rfl, hn3⟩ := New.of hown3 (by rw [HLT.out]; intro x hx; rcases List.mem_append.1 hx with h | h; exact HX.out.2.1 x h; exact HAB.out x h); have hl3 : (laidF [] (rs.take (k + 1))).length = L + A.length := (by rw [HLT.out, List.length_append, HX.out.1]); rw [hl3]; rw [hl3] at hown3; have H3 : Hid (w3.ownsRow w.heap.size 5 1 (.slice a3 (L + A.length) c3) (L + A.length) (cellsB (laidF [] (rs.take (k + 1)))) ∧ w3.ownsRow w.heap.size 3 1 u6 k (endsK rs k) ∧ Below w.heap.size w w3 ∧ (laidF [] (rs.take (k + 1))).length = L + A.length) := ⟨hown3, keepOwn HB.out.2.1 hgr3 (fun g hg e => own_ne HB.out.1 HB.out.2.1 (by decide) g e hg), below_of HB.out.2.2 hgr3 (Nat.le_refl _) (fun j hj => (HB.out.1.lt j hj).1), hl3⟩; have hs3 := hgr3.size; clear hown3 hgr3 hn3 hl3)
            | (at_builtin; refine wpList_app _ (by rfl) (.tmp 34) (.tmp 37) 25 (by rfl) w.heap.size 3 iI _ 1 8 undI hiI hy0 hy1 hy2 rfl (by omega) u6 k (endsK rs k) (by rfl) (H3.out.2.1.alloc _) ⟨w3.heap.size, 0, none⟩ 1 1 [.int .i64 ((L : Int) + (A.length : Int))] (by rfl) (by rfl) (World.news_of_block (heap_alloc_new _ _)) (by intro u hu; simp at hu; subst hu; rfl) (by intro _; omega) (by unfold maxLen; omega) (by omega) (by simp; omega) (w3.heap.size + 1) (by simp) ?_; intro g4 c4 w4 hown4 hgr4 hat4 hlt4; have H4 : Hid (w4.ownsRow w.heap.size 5 1 (.slice a3 (L + A.length) c3) (L + A.length) (cellsB (laidF [] (rs.take (k + 1)))) ∧ w4.ownsRow w.heap.size 3 1 (.slice (some ⟨g4, 0, none⟩) (k + 1) c4) (k + 1) (endsK rs (k + 1)) ∧ Below w.heap.size w w4) := ⟨keepOwn (H3.out.1.alloc _) hgr4 (fun g hg e => own_ne H3.out.1 H3.out.2.1 (by decide) g hg e), by rw [endsK_succ, H3.out.2.2.2]; exact hown4, below_of (H3.out.2.2.1.alloc (by omega) _) hgr4 (Nat.le_refl _) (fun j hj => (H3.out.2.1.lt j hj).1)⟩; clear hown4 hgr4 hat4 hlt4))
          go_roundw
          case rel => exact ⟨k + 1, L + A.length, a3, c3, by omega, by go_num, rfl, by omega, by omega, H3.out.2.2.2, (by rw [HLT.out]; intro x hx; rcases List.mem_append.1 hx with h | h; exact HX.out.2.1 x h; exact HAB.out x h), by rw [H3.out.2.2.2]; exact H4.out.1, H4.out.2.1, H4.out.2.2⟩
          case measure => simp [intOf]; omega
    · obtain rfl : k = n := by omega
      have q1 : ¬ (k : Int) < (k : Int) := by omega
      go_wp2
      go_ret3
      have htk : rs.take k = rs := List.take_of_length_le (by rw [HN.out]; exact Nat.le_refl _)
      exact .inr ⟨_, _, rfl, by rw [HN.out]; exact HX.out.2.2, by have h := HX.out.1; rw [htk] at h; rw [h]; exact ⟨hL, by rw [HN.out]; exact hkL⟩⟩

end Lgl
end Go.Proofs.YtcmbogogakdeoaaDoor
