import Derived.Test.YtcioaoanhmpdkaaRt6
import Derived.Test.YtcioaoanhmpdkaaTk5
import Derived.Deep.RegionLaw
namespace Go.Proofs.Ytcioaoanhmpdkaa
namespace Mem
open Go.RowKit Laws Irw Erw KMath Skm Byt Sk Grp Crw Chk
set_option linter.unusedVariables false
theorem ltE_trans {a b c : En} (h1 : ltE a b) (h2 : ltE b c) : ltE a c := (cmpE_trans a.1 b.1 c.1 a.2.1 b.2.1 c.2.1).2.2.2 h1 (by unfold ltE at h2; omega)
theorem ltE_zero {a b c : En} (h1 : ltE a b) (h2 : cmpE b.1 c.1 b.2.1 c.2.1 = 0) : ltE a c := (cmpE_trans a.1 b.1 c.1 a.2.1 b.2.1 c.2.1).2.2.2 h1 (by omega)
theorem zero_ltE {a b c : En} (h1 : cmpE a.1 b.1 a.2.1 b.2.1 = 0) (h2 : ltE b c) : ltE a c := by
  obtain ⟨e1, e2⟩ := (cmpE_zero_iff _ _ _ _).1 h1
  have e3 : a.1 = b.1 := Sk.toList_inj e1
  unfold ltE at *
  rw [e3, e2]
  exact h2
/-- a sorted list, cut at an entry's place -/
theorem cut_at {es : List En} (hs : es.Pairwise ltE) (x : En) : ∃ pre post, es = pre ++ post ∧ plc x.1 x.2.1 es = pre.length ∧ (∀ e ∈ pre, ltE e x) ∧ ((∀ e ∈ post, ltE x e) ∨ ∃ d r, post = d :: r ∧ cmpE d.1 x.1 d.2.1 x.2.1 = 0) := by
  refine ⟨es.takeWhile (fun y => ahB y (atE x.1 x.2.1)), es.dropWhile (fun y => ahB y (atE x.1 x.2.1)), (List.takeWhile_append_dropWhile).symm, rfl, fun e he => ?_, ?_⟩
  · have h1 : ahB e (atE x.1 x.2.1) = true := by
      have := List.all_takeWhile (l := es) (p := fun y => ahB y (atE x.1 x.2.1))
      exact (List.all_eq_true.1 this) e he
    have h2 : cmpE e.1 x.1 e.2.1 x.2.1 < 0 := by
      unfold ahB at h1
      exact of_decide_eq_true h1
    exact h2
  · cases hd : es.dropWhile (fun y => ahB y (atE x.1 x.2.1)) with
    | nil => exact .inl (by simp)
    | cons d r =>
      have h1 : ahB d (atE x.1 x.2.1) = false := by
        have := List.head_dropWhile_not (fun y => ahB y (atE x.1 x.2.1)) (l := es) (by rw [hd]; simp)
        simpa [hd] using this
      have h2 : ¬ cmpE d.1 x.1 d.2.1 x.2.1 < 0 := of_decide_eq_false h1
      by_cases h0 : cmpE d.1 x.1 d.2.1 x.2.1 = 0
      · exact .inr ⟨d, r, rfl, h0⟩
      · refine .inl fun e he => ?_
        have hxd : ltE x d := by
          unfold ltE
          rw [cmpE_neg d.1 x.1 d.2.1 x.2.1]
          omega
        rcases List.mem_cons.1 he with rfl | he
        · exact hxd
        · have hsd : (d :: r).Pairwise ltE := by
            rw [← hd]
            exact hs.sublist (List.dropWhile_sublist _)
          exact ltE_trans hxd ((List.pairwise_cons.1 hsd).1 e he)
theorem rput_is {es : List En} (hs : es.Pairwise ltE) (x : En) : (rput es x).Pairwise ltE ∧ (((∃ e ∈ es, cmpE e.1 x.1 e.2.1 x.2.1 = 0) ∧ rput es x = es) ∨ ((∀ e ∈ es, cmpE e.1 x.1 e.2.1 x.2.1 ≠ 0) ∧ (rput es x).Perm (x :: es))) := by
  obtain ⟨pre, post, hcut, hpl, hpre, hpost⟩ := cut_at hs x
  rcases hpost with hpost | ⟨d, r, rfl, h0⟩
  · have hnd : ¬ Dup es x := by
      rintro ⟨d1, d2, d3⟩
      rw [hpl] at d1 d2 d3
      have hg : es.getD pre.length ez ∈ post := by
        rw [hcut, List.length_append] at d1
        rw [hcut, List.getD_eq_getElem?_getD, List.getElem?_append_right (Nat.le_refl _), Nat.sub_self]
        cases post with
        | nil => simp at d1
        | cons q r => simp
      have := hpost _ hg
      unfold ltE at this
      rw [d2, d3, cmpE_self] at this
      omega
    have he : rput es x = pre ++ x :: post := by
      unfold rput insP
      rw [if_neg hnd, hpl, hcut]
      simp
    have hs2 := hs
    rw [hcut, List.pairwise_append] at hs2
    refine ⟨?_, .inr ⟨?_, ?_⟩⟩
    · rw [he, List.pairwise_append]
      refine ⟨hs2.1, List.pairwise_cons.2 ⟨hpost, hs2.2.1⟩, fun a ha b hb => ?_⟩
      rcases List.mem_cons.1 hb with rfl | hb
      · exact hpre a ha
      · exact hs2.2.2 a ha b hb
    · intro e he2
      rw [hcut] at he2
      rcases List.mem_append.1 he2 with h | h
      · exact ltE_ne (hpre e h)
      · exact cmpE_ne_symm (ltE_ne (hpost e h))
    · rw [he, hcut]
      exact List.perm_middle
  · have hd : Dup es x := by
      obtain ⟨q1, q2⟩ := (cmpE_zero_iff _ _ _ _).1 h0
      have hg : es.getD pre.length ez = d := by
        rw [hcut, List.getD_eq_getElem?_getD, List.getElem?_append_right (Nat.le_refl _), Nat.sub_self]
        rfl
      refine ⟨?_, ?_, ?_⟩
      · rw [hpl, hcut]; simp
      · rw [hpl, hg]; exact Sk.toList_inj q1
      · rw [hpl, hg]; exact q2
    have he : rput es x = es := by unfold rput; rw [if_pos hd]
    refine ⟨by rw [he]; exact hs, .inl ⟨⟨d, by rw [hcut]; simp, h0⟩, he⟩⟩
/-- both sides put the same in -/
theorem adds_rput {ds : List Nat} {ns ns' : List Nd} {fs es : List En} (h : Adds ds ns fs ns') (hp : (ns.map Nd.e).Perm es) (hs : es.Pairwise ltE) : (ns'.map Nd.e).Perm (fs.foldl rput es) ∧ (fs.foldl rput es).Pairwise ltE := by
  induction h with
  | nil => exact ⟨hp, hs⟩
  | @snoc gs ns1 ns2 e ok h1 h2 ih =>
    obtain ⟨p1, p2⟩ := ih
    rw [List.foldl_append, List.foldl_cons, List.foldl_nil]
    obtain ⟨r1, r2⟩ := rput_is p2 e
    refine ⟨?_, r1⟩
    rcases h2 with ⟨_, rfl, nd, h3, h4⟩ | ⟨_, h3, pre, post, b, hc, rfl⟩
    · rcases r2 with ⟨_, r3⟩ | ⟨r3, _⟩
      · rw [r3]; exact p1
      · exact absurd h4 (r3 nd.e (p1.mem_iff.1 (List.mem_map.2 ⟨nd, h3, rfl⟩)))
    · rcases r2 with ⟨⟨y, hy, hy0⟩, _⟩ | ⟨_, r3⟩
      · obtain ⟨nd, hnd, rfl⟩ := List.mem_map.1 (p1.mem_iff.2 hy)
        exact absurd hy0 (h3 nd hnd)
      · refine List.Perm.trans ?_ r3.symm
        rw [List.map_append, List.map_cons]
        refine List.perm_middle.trans (List.Perm.cons _ ?_)
        rw [← List.map_append, ← hc]
        exact p1
theorem adds_same {ds : List Nat} {ns ns' : List Nd} {fs : List En} (h : Adds ds ns fs ns') (hs : ns.Pairwise (fun a b => ltE a.e b.e)) (hs' : ns'.Pairwise (fun a b => ltE a.e b.e)) : ns'.map Nd.e = fs.foldl rput (ns.map Nd.e) := by
  obtain ⟨h1, h2⟩ := adds_rput h (List.Perm.refl _) (List.pairwise_map.2 hs)
  exact eq_sorted (fun a b => ltE_asym a b) h1 (List.pairwise_map.2 hs') h2
end Mem
end Go.Proofs.Ytcioaoanhmpdkaa
namespace Go.Proofs.Ytcioaoanhmpdkaa
namespace Mem
open Go.RowKit Laws Irw Erw KMath Skm Byt Sk Grp Crw Chk
set_option linter.unusedVariables false
set_option maxRecDepth 100000
set_option linter.unusedSimpArgs false
/-- an iterator that gives these, as far as it is told to, in every later world -/
def Gv (w : World) (fv : Value) (nn : Int) (al : List En) : Prop := ∀ W, Below w.heap.size w W → Calls Try.prog 26 #[fv, .int .i64 nn] W fun e w' => ∃ a c, e = .returned (.tuple #[.slice a (tkn nn al).length c, .bool true]) ∧ IsE w' a (tkn nn al) ∧ Below W.heap.size W w'
theorem Gv.below {w w' : World} {fv : Value} {nn : Int} {al : List En} (h : Gv w fv nn al) (hb : Below w.heap.size w w') : Gv w' fv nn al := fun W hW => h W (hb.trans (hW.mono hb.size))
theorem HID5 {p : Prop} (h : p) : Hid p := h
theorem take_of_slice {l : List En} {n : Int} (h0 : 0 ≤ n) (h1 : n < (l.length : Int)) : tkn n l = l.take n.toNat ∧ (tkn n l).length = n.toNat := by
  have e : tkn n l = l.take n.toNat := by unfold tkn; rw [if_neg (by omega)]
  exact ⟨e, by rw [e, List.length_take]; omega⟩
set_option maxHeartbeats 4000000 in
theorem walks_loop (fv : Value) (nn : Int) (al : List En) (w : World) (a2 : Option Addr) (M c2 : Nat) (hT : Gv w fv nn al) (hi : IsE w a2 (tkn nn al)) (hM : (tkn nn al).length = M) (hMb : M ≤ 1000000000) : Hid (∀ W, Below w.heap.size w W → Calls Try.prog 26 #[fv, .int .i64 nn] W fun e w' => ∃ a c, e = .returned (.tuple #[.slice a M c, .bool true]) ∧ Below W.heap.size W w' ∧ Calls Try.prog 29 #[.slice a M c, .slice a2 M c2] w' fun e w'' => e = .returned (.bool true) ∧ Below w'.heap.size w' w'') := fun W hW => by
  refine (hT W hW).mono ?_
  rintro e w' ⟨a, c, rfl, hi', hb'⟩
  refine ⟨a, c, by rw [hM], hb', ?_⟩
  refine (sameEntries_true a a2 c c2 M (tkn nn al) w' hi' ((hi.below hW).below hb') hM (by omega)).mono ?_
  rintro e w'' ⟨rfl, n, rfl⟩
  exact ⟨rfl, below_drewN (Below.refl _ _) _⟩
set_option maxHeartbeats 4000000 in
theorem walks_any (fv : Value) (nn : Int) (al : List En) (w : World) (a2 : Option Addr) (K c2 : Nat) (hT : Gv w fv nn al) (hi : IsE w a2 al) (hK : al.length = K) (hc : K ≤ c2) (hKN : K ≤ 1000000000) :
    Calls Try.prog 46 #[fv, .slice a2 K c2, .int .i64 nn] w fun e w' => e = .returned (.bool true) ∧ Below w.heap.size w w' := by
  have z9 : (K : Int) ≤ 1000000000 := by omega
  have zc : (K : Int) ≤ (c2 : Int) := by omega
  have tail : ∀ M, (tkn nn al).length = M → M ≤ 1000000000 → IsE w a2 (tkn nn al) → Hid (∀ W, Below w.heap.size w W → Calls Try.prog 26 #[fv, .int .i64 nn] W fun e w' => ∃ a c, e = .returned (.tuple #[.slice a M c, .bool true]) ∧ Below W.heap.size W w' ∧ Calls Try.prog 29 #[.slice a M c, .slice a2 M c2] w' fun e w'' => e = .returned (.bool true) ∧ Below w'.heap.size w' w'') := fun M h1 h2 h3 => walks_loop fv nn al w a2 M c2 hT h3 h1 h2
  have HTL := HID5 tail
  clear tail hc hKN hT
  by_cases hn0 : 0 ≤ nn ∧ nn < (K : Int)
  · obtain ⟨hn0, hn1⟩ := hn0
    obtain ⟨e1, e2⟩ := take_of_slice (l := al) hn0 (by rw [hK]; exact hn1)
    obtain ⟨b2, o2', rfl, _⟩ := hi.at_ (by rw [hK]; omega)
    have z0 : decide (0 ≤ nn) = true := decide_eq_true hn0
    have z1 : decide (nn < (K : Int)) = true := decide_eq_true hn1
    have z3 : nn ≤ (c2 : Int) := by omega
    have HL := HTL.out nn.toNat e2 (by omega) (by rw [e1]; exact IsE.take hi _)
    clear e1 e2 hi hK HTL
    obtain ⟨M, rfl⟩ : ∃ M : Nat, nn = (M : Int) := ⟨nn.toNat, by omega⟩
    rw [Int.toNat_natCast] at HL
    go_enter Try.func46, Try.ntmps46
    go_wp2
    go_loopw [7] (fun i wr => ∃ q : Nat, q ≤ 3 ∧ i = .int .i64 (q : Int) ∧ Hid (Below w.heap.size w wr)) (fun i _ => 3 - (intOf i).toNat)
    case atStart => exact ⟨0, by omega, rfl, Below.refl _ _⟩
    case round =>
      obtain ⟨q, hq, rfl, HBR⟩ := hrel
      rename World => wa
      by_cases hlq : q < 3
      · have zq : (q : Int) < 3 := by omega
        have HT2 := HID5 (HL.out wa HBR.out)
        go_wp2_with fail
        refine Calls.mono HT2.out ?_
        rintro e w5 ⟨a5, c5, rfl, hb5, hs5⟩
        have HSE := HID5 hs5
        have HB5 := HID5 (keepB hb5 HBR.out)
        clear hs5 hb5 HT2
        go_wp2_with fail
        refine HSE.out.mono ?_
        rintro e w6 ⟨rfl, hb6⟩
        have HB6 := HID5 (keepB hb6 HB5.out)
        clear hb6 HSE
        go_wp2
        go_roundw
        case rel => exact ⟨q + 1, by omega, by go_num, HB6⟩
        case measure => simp [intOf]; omega
      · obtain rfl : q = 3 := by omega
        go_wp2
        go_ret
        exact ⟨rfl, HBR.out⟩
  · have e1 : tkn nn al = al := by
      unfold tkn
      split
      · rfl
      · exact List.take_of_length_le (by rw [hK]; omega)
    have z0 : decide (0 ≤ nn) = false ∨ decide (nn < (K : Int)) = false := by
      rcases Int.lt_or_le nn 0 with h | h
      · exact .inl (decide_eq_false (by omega))
      · exact .inr (decide_eq_false (by omega))
    have HL := HTL.out K (by rw [e1]; exact hK) (by omega) (by rw [e1]; exact hi)
    have hz : (0 ≤ nn ∧ ¬ nn < (K : Int)) ∨ ¬ 0 ≤ nn := by
      rcases Int.lt_or_le nn 0 with h | h
      · exact .inr (by omega)
      · exact .inl ⟨h, fun h2 => hn0 ⟨h, h2⟩⟩
    clear e1 hi hK HTL hn0 z0
    rcases hz with ⟨hz0, hz1⟩ | hz0
    · have z0 : decide (0 ≤ nn) = true := decide_eq_true hz0
      have z1 : decide (nn < (K : Int)) = false := decide_eq_false hz1
      have z2 : (K : Int) ≤ nn := by omega
      clear hz1
      go_enter Try.func46, Try.ntmps46
      go_wp2
      go_loopw [7] (fun i wr => ∃ q : Nat, q ≤ 3 ∧ i = .int .i64 (q : Int) ∧ Hid (Below w.heap.size w wr)) (fun i _ => 3 - (intOf i).toNat)
      case atStart => exact ⟨0, by omega, rfl, Below.refl _ _⟩
      case round =>
        obtain ⟨q, hq, rfl, HBR⟩ := hrel
        rename World => wa
        by_cases hlq : q < 3
        · have zq : (q : Int) < 3 := by omega
          have HT2 := HID5 (HL.out wa HBR.out)
          go_wp2_with fail
          refine Calls.mono HT2.out ?_
          rintro e w5 ⟨a5, c5, rfl, hb5, hs5⟩
          have HSE := HID5 hs5
          have HB5 := HID5 (keepB hb5 HBR.out)
          clear hs5 hb5 HT2
          go_wp2_with fail
          refine HSE.out.mono ?_
          rintro e w6 ⟨rfl, hb6⟩
          have HB6 := HID5 (keepB hb6 HB5.out)
          clear hb6 HSE
          go_wp2
          go_roundw
          case rel => exact ⟨q + 1, by omega, by go_num, HB6⟩
          case measure => simp [intOf]; omega
        · obtain rfl : q = 3 := by omega
          go_wp2
          go_ret
          exact ⟨rfl, HBR.out⟩
    · have z0 : decide (0 ≤ nn) = false := decide_eq_false hz0
      go_enter Try.func46, Try.ntmps46
      go_wp2
      go_loopw [7] (fun i wr => ∃ q : Nat, q ≤ 3 ∧ i = .int .i64 (q : Int) ∧ Hid (Below w.heap.size w wr)) (fun i _ => 3 - (intOf i).toNat)
      case atStart => exact ⟨0, by omega, rfl, Below.refl _ _⟩
      case round =>
        obtain ⟨q, hq, rfl, HBR⟩ := hrel
        rename World => wa
        by_cases hlq : q < 3
        · have zq : (q : Int) < 3 := by omega
          have HT2 := HID5 (HL.out wa HBR.out)
          go_wp2_with fail
          refine Calls.mono HT2.out ?_
          rintro e w5 ⟨a5, c5, rfl, hb5, hs5⟩
          have HSE := HID5 hs5
          have HB5 := HID5 (keepB hb5 HBR.out)
          clear hs5 hb5 HT2
          go_wp2_with fail
          refine HSE.out.mono ?_
          rintro e w6 ⟨rfl, hb6⟩
          have HB6 := HID5 (keepB hb6 HB5.out)
          clear hb6 HSE
          go_wp2
          go_roundw
          case rel => exact ⟨q + 1, by omega, by go_num, HB6⟩
          case measure => simp [intOf]; omega
        · obtain rfl : q = 3 := by omega
          go_wp2
          go_ret
          exact ⟨rfl, HBR.out⟩
end Mem
end Go.Proofs.Ytcioaoanhmpdkaa
