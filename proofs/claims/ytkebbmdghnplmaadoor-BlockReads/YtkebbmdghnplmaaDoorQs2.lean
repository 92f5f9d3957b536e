import Derived.Deep.Cut
import Derived.Test.YtkebbmdghnplmaaDoorQs1
import Derived.Test.YtkebbmdghnplmaaDoorQd4
import Derived.Test.YtkebbmdghnplmaaDoorQg1
namespace Go.Proofs.YtkebbmdghnplmaaDoor
namespace Qb
open Go.RowKit CMath Byt Laws Irw Crw Cod
set_option linter.unusedVariables false
set_option linter.unusedSimpArgs false
set_option maxRecDepth 20000

theorem res_ent2 {fn : Func} {p u : Tmp} (h : fn.results = #[.cell p 30, .tmp u]) (tmps : Array Value) (w : World) (B : Nat) (k : ByteArray) (s : Int) (d : Bool) (x : ByteArray) (hp : tmps.getD p undef = .pointer (some ⟨B, 0, none⟩))
    (c0 : w.cell? ⟨B, 0, none⟩ = some (.string k)) (c1 : w.cell? ⟨B, 1, none⟩ = some (.int .u64 s)) (c2 : w.cell? ⟨B, 2, none⟩ = some (.bool d)) (c3 : w.cell? ⟨B, 3, none⟩ = some (.string x)) :
    (results fn tmps).run Tryd.prog w = .ok (.tuple #[.agg #[.string k, .int .u64 s, .bool d, .string x], tmps.getD u undef]) w := by
  simp only [results, h]
  have hp' : tmps[p]?.getD undef = .pointer (some ⟨B, 0, none⟩) := by simpa using hp
  simp [Sem.run_bind, Result.andThen, hp', go_sem, c0, c1, c2, c3]
theorem skE_take {l : List En} {key : ByteArray} {k : Nat} {x : En} (h : ∀ e ∈ l.take k, Op.bytesLess e.1.toList key.toList = true) (hx : l[k]? = some x) (hk : Op.bytesLess x.1.toList key.toList = false) : skE l key = some x := by
  refine skE_some (l := l.take k) ?_ h hk
  have : l.take k ++ [x] = l.take (k + 1) := by rw [List.take_add_one, hx]; rfl
  rw [this]
  exact List.take_prefix _ _
theorem refAbove_max (a b : ByteArray) (w : World) (ha : a.size ≤ maxLen) (hb : b.size ≤ 1000000) :
    Calls Tryd.prog 27 #[.string a, .string b] w fun e w' => e = .returned (.bool (Op.bytesLess b.toList a.toList)) ∧ Below w.heap.size w w' := by
  rw [← above_eq]
  go_enter Tryd.func27, Tryd.ntmps27
  go_wp2_with (go_at_call 62; go_loud (refine (Ent.refCompare_any a 0 false ⟨#[]⟩ b 0 false ⟨#[]⟩ _ ha (by unfold maxLen; omega)).mono ?_; rintro e w1 ⟨rfl, hb1⟩; have HB : Hid (Below w.heap.size w w1) := hb1; clear hb1))
  go_ret
  exact ⟨rfl, HB.out⟩
set_option maxHeartbeats 2000000 in
theorem refSeek_any (a : Option Addr) (cap n : Nat) (l : List En) (key : ByteArray) (w : World) (hl : Erw.IsE w a l) (hn : n = l.length) (hm : n ≤ 1000000) (hk : key.size ≤ maxLen) (hsz : ∀ e ∈ l, e.1.size ≤ 1000000) :
    Calls Tryd.prog 20 #[.slice a n cap, .string key] w fun e w' => e = .returned (skV (skE l key)) ∧ Below w.heap.size w w' := by
  have HL : Hid (Erw.IsE w a l ∧ n = l.length ∧ ∀ e ∈ l, e.1.size ≤ 1000000) := ⟨hl, hn, hsz⟩
  have g1 : (w.alloc (.cells #[.string ⟨#[]⟩, .int .u64 0, .bool false, .string ⟨#[]⟩] 30)).heap[w.heap.size]? = some (.cells #[.string ⟨#[]⟩, .int .u64 0, .bool false, .string ⟨#[]⟩] 30) := World.alloc_heap_new _ _
  have hb1 : Below w.heap.size w (w.alloc (.cells #[.string ⟨#[]⟩, .int .u64 0, .bool false, .string ⟨#[]⟩] 30)) := (Below.refl _ _).alloc (Nat.le_refl _) _
  clear hl hn hsz
  go_enter Tryd.func20, Tryd.ntmps20
  go_upto_region 1 with (fail)
  generalize (w.alloc (.cells #[.string ⟨#[]⟩, .int .u64 0, .bool false, .string ⟨#[]⟩] 30)) = W1 at *
  have HG1 : Hid (W1.heap[w.heap.size]? = some (.cells #[.string ⟨#[]⟩, .int .u64 0, .bool false, .string ⟨#[]⟩] 30) ∧ Below w.heap.size w W1) := ⟨g1, hb1⟩
  clear g1 hb1
  go_wp2
  go_loopw [6] (fun i wr => ∃ k : Nat, k ≤ n ∧ i = .int .i64 (k : Int) ∧ Hid (Below W1.heap.size W1 wr ∧ ∀ e ∈ l.take k, Op.bytesLess e.1.toList key.toList = true)) (fun i _ => n - (intOf i).toNat)
  case atStart => exact ⟨0, Nat.zero_le _, rfl, Below.refl _ _, by simp⟩
  case round =>
    obtain ⟨k, hkn, rfl, HK⟩ := hrel
    rename World => wr
    have HBW : Hid (Below w.heap.size w wr) := HG1.out.2.trans (HK.out.1.mono HG1.out.2.size)
    have gr : wr.heap[w.heap.size]? = some (.cells #[.string ⟨#[]⟩, .int .u64 0, .bool false, .string ⟨#[]⟩] 30) := (HK.out.1.block _ (Array.getElem?_eq_some_iff.1 HG1.out.1).1).trans HG1.out.1
    by_cases hlt : k < n
    · have q1 : (k : Int) < (n : Int) := by omega
      have hkl : k < l.length := by have := HL.out.2.1; omega
      obtain ⟨b1, o1, ⟨yk, ys, yd, yv⟩, rfl, hy, hbl, x0, x1, x2, x3⟩ := Qg.isE_at (HL.out.1.below HBW.out) hkl
      have hs := HL.out.2.2 _ (List.mem_of_getElem? hy)
      dsimp only at x0 x1 x2 x3 hs
      have HAB : Hid (Calls Tryd.prog 27 #[.string key, .string yk] wr fun e w' => e = .returned (.bool (Op.bytesLess yk.toList key.toList)) ∧ Below wr.heap.size wr w') := refAbove_max key yk wr hk hs
      have HY : Hid (l[k]? = some (yk, ys, yd, yv)) := hy
      cases hb : Op.bytesLess yk.toList key.toList with
      | true =>
        rw [hb] at HAB
        have HT2 : Hid (∀ e ∈ l.take (k + 1), Op.bytesLess e.1.toList key.toList = true) := fun e he => by
          rw [List.take_add_one, hy] at he
          rcases List.mem_append.1 he with he | he
          · exact HK.out.2 e he
          · simp at he; rw [he]; exact hb
        clear hy hb gr
        go_wp2_with (go_at_call 27; go_loud (refine HAB.out.mono ?_; rintro e w2 ⟨rfl, hb2⟩; have HB2 : Hid (Below W1.heap.size W1 w2) := HK.out.1.trans (hb2.mono HK.out.1.size); clear hb2))
        go_roundw
        case rel => exact ⟨k + 1, by omega, by go_num, HB2.out, HT2.out⟩
        case measure => simp [intOf]; omega
      | false =>
        rw [hb] at HAB
        have HSK : Hid (skE l key = some (yk, ys, yd, yv)) := skE_take HK.out.2 hy hb
        have hgl := (Array.getElem?_eq_some_iff.1 gr).1
        have HGR : Hid (wr.heap[w.heap.size]? = some (.cells #[.string ⟨#[]⟩, .int .u64 0, .bool false, .string ⟨#[]⟩] 30)) := gr
        clear hy hb gr
        go_wp2_with (go_at_call 27; go_loud (refine HAB.out.mono ?_; rintro e w2 ⟨rfl, hb2⟩; have HB2 : Hid (Below w.heap.size w w2) := HBW.out.trans (hb2.mono HBW.out.size); have y0 := (hb2.cell (p := ⟨b1, o1 + k * 4, none⟩) hbl).trans x0; have y1 := (hb2.cell (p := ⟨b1, o1 + k * 4 + 1, none⟩) hbl).trans x1; have y2 := (hb2.cell (p := ⟨b1, o1 + k * 4 + 2, none⟩) hbl).trans x2; have y3 := (hb2.cell (p := ⟨b1, o1 + k * 4 + 3, none⟩) hbl).trans x3; have g2 := (hb2.block _ hgl).trans HGR.out; have c0 : w2.cell? ⟨w.heap.size, 0, none⟩ = some (.string ⟨#[]⟩) := (by rw [cell_of_obj g2]; rfl); have c1 : w2.cell? ⟨w.heap.size, 1, none⟩ = some (.int .u64 0) := (by rw [cell_of_obj g2]; rfl); have c2 : w2.cell? ⟨w.heap.size, 2, none⟩ = some (.bool false) := (by rw [cell_of_obj g2]; rfl); have c3 : w2.cell? ⟨w.heap.size, 3, none⟩ = some (.string ⟨#[]⟩) := (by rw [cell_of_obj g2]; rfl); have z : ∀ j, w2.frozen? ⟨w.heap.size, j, none⟩ = false := (fun j => froz_of_obj g2); clear hb2 g2 x0 x1 x2 x3))
        have h4 := four_set (.string yk) (.int .u64 ys) (.bool yd) (.string yv) c0 c1 c2 c3
        refine bodyPost_ret (res_ent2 rfl _ _ w.heap.size yk ys yd yv (by rfl) h4.1 h4.2.1 h4.2.2.1 h4.2.2.2) rfl ?_
        exact ⟨by rw [HSK.out]; rfl, four_below _ _ _ _ HB2.out (Nat.le_refl _)⟩
    · obtain rfl : k = n := by omega
      have HSK : Hid (skE l key = none) := by
        have := HK.out.2
        rw [List.take_of_length_le (by have := HL.out.2.1; omega)] at this
        exact skE_none this
      have c0 : wr.cell? ⟨w.heap.size, 0, none⟩ = some (.string ⟨#[]⟩) := by rw [cell_of_obj gr]; rfl
      have c1 : wr.cell? ⟨w.heap.size, 1, none⟩ = some (.int .u64 0) := by rw [cell_of_obj gr]; rfl
      have c2 : wr.cell? ⟨w.heap.size, 2, none⟩ = some (.bool false) := by rw [cell_of_obj gr]; rfl
      have c3 : wr.cell? ⟨w.heap.size, 3, none⟩ = some (.string ⟨#[]⟩) := by rw [cell_of_obj gr]; rfl
      have z : ∀ j, wr.frozen? ⟨w.heap.size, j, none⟩ = false := fun j => froz_of_obj gr
      clear gr
      go_wp2
      have h4 := four_set (.string ⟨#[]⟩) (.int .u64 0) (.bool false) (.string ⟨#[]⟩) c0 c1 c2 c3
      refine bodyPost_ret (res_ent2 rfl _ _ w.heap.size ⟨#[]⟩ 0 false ⟨#[]⟩ (by rfl) h4.1 h4.2.1 h4.2.2.1 h4.2.2.2) rfl ?_
      exact ⟨by rw [HSK.out]; rfl, four_below _ _ _ _ HBW.out (Nat.le_refl _)⟩
end Qb
end Go.Proofs.YtkebbmdghnplmaaDoor
