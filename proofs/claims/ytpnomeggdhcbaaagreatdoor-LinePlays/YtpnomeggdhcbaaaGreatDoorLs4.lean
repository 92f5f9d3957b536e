import Derived.Test.YtpnomeggdhcbaaaGreatDoorLs3
import Derived.BigQuiet
import Derived.Deep.DeepCutAuto
namespace Go.Proofs.YtpnomeggdhcbaaaGreatDoor
namespace Lin
open Go.RowKit Go.Shelf Laws Irw
set_option linter.unusedVariables false
set_option linter.unusedSimpArgs false
set_option maxRecDepth 100000
theorem OB.new {T : Nat → Nat} {W : World} {o : OpD} {u : TypeId} (h : ∀ b, W.heap.size ≤ b → T b = 0) : OB T (W.alloc (.cells #[.int .i64 o.kind, .int .i64 o.n, .bool o.second] u)) W.heap.size o := by
  have c : ∀ j, (W.alloc (.cells #[.int .i64 o.kind, .int .i64 o.n, .bool o.second] u)).cell? ⟨W.heap.size, j, none⟩ = (#[Value.int .i64 o.kind, .int .i64 o.n, .bool o.second])[j]? := fun j => by rw [World.cell?_alloc_at _ _ _ _ rfl]
  exact ⟨by simp, h _ (Nat.le_refl _), c 0, c 1, c 2⟩
theorem RB.new {T : Nat → Nat} {W : World} {p q : Nat} {u : TypeId} (h : ∀ b, W.heap.size ≤ b → T b = 0) : RB T (W.alloc (.cells #[.pointer (some ⟨p, 0, none⟩), .pointer (some ⟨q, 0, none⟩)] u)) W.heap.size p q := by
  have c : ∀ j, (W.alloc (.cells #[.pointer (some ⟨p, 0, none⟩), .pointer (some ⟨q, 0, none⟩)] u)).cell? ⟨W.heap.size, j, none⟩ = (#[Value.pointer (some ⟨p, 0, none⟩), .pointer (some ⟨q, 0, none⟩)])[j]? := fun j => by rw [World.cell?_alloc_at _ _ _ _ rfl]
  exact ⟨by simp, h _ (Nat.le_refl _), c 0, c 1⟩
theorem RB.turn {T : Nat → Nat} {W : World} {b p q : Nat} (h : RB T W b p q) (p' q' : Nat) : RB T ((W.setCell ⟨b, 0, none⟩ (.pointer (some ⟨p', 0, none⟩))).setCell ⟨b, 1, none⟩ (.pointer (some ⟨q', 0, none⟩))) b p' q' := by
  refine ⟨by simpa using h.lt, h.tg, ?_, ?_⟩
  · rw [World.cell?_setCell_other _ _ _ _ (by intro z; cases z)]
    exact World.cell?_setCell_same _ _ _ h.c0
  · exact World.cell?_setCell_same _ _ _ ((World.cell?_setCell_other _ _ _ _ (by intro z; cases z)).trans h.c1)
theorem OB.far {T : Nat → Nat} {W : World} {b c j : Nat} {o : OpD} {v : Value} (h : OB T W b o) (hne : c ≠ b) : OB T (W.setCell ⟨c, j, none⟩ v) b o :=
  ⟨by simpa using h.lt, h.tg, (World.cell?_setCell_far _ _ _ _ hne).trans h.c0, (World.cell?_setCell_far _ _ _ _ hne).trans h.c1, (World.cell?_setCell_far _ _ _ _ hne).trans h.c2⟩
theorem set_below {B : Nat} {w W : World} {b j : Nat} {v : Value} (h : Below B w W) (hb : B ≤ b) (hs : B ≤ w.heap.size) : Below B w (W.setCell ⟨b, j, none⟩ v) :=
  h.trans ⟨rfl, rfl, rfl, by simp, fun c hc => Below.heap_setCell W _ v c (fun e => by simp only at e; omega)⟩
set_option maxHeartbeats 4000000 in
theorem linePlays_any (a : Option Addr) (cap N : Nat) (l : List OpD) (w : World) (hN : l.length = N) (hl : IsOps w a l) :
    Calls Tryz.prog 3 #[.slice a N cap] w fun e w' => e = .returned (.bool true) ∧ Below w.heap.size w w' := by
  have HD : Hid (IsOps w a l ∧ l.length = N) := ⟨hl, hN⟩
  clear hl hN
  go_enter Tryz.func3, Tryz.ntmps3
  go_wp2_with (first | (refine BookI.wpList_book (by rfl) (by rfl) ?_) | (go_at_call 4; fail))
  have HK0 : Hid (BookI.Kept (BookI.upd (fun _ => 0) w.heap.size 1) (w.alloc (.cells BookI.bookZ 45)) w.heap.size 0) := BookI.Kept.first w
  have hb2 : Below w.heap.size w (w.alloc (.cells BookI.bookZ 45)) := (Below.refl _ _).alloc (Nat.le_refl _) _
  have hs2 : (w.alloc (.cells BookI.bookZ 45)).heap.size = w.heap.size + 1 := by simp
  generalize (w.alloc (.cells BookI.bookZ 45)) = W2 at *
  have HB2 : Hid (Below w.heap.size w W2 ∧ W2.heap.size = w.heap.size + 1) := ⟨hb2, hs2⟩
  clear hb2 hs2
  refine (new_all W2).mono ?_
  rintro e w3 ⟨rfl, h3, hb3⟩
  have H3 : Hid ((∀ T t, LineAt t (Irw.upd T W2.heap.size t) w3 W2.heap.size []) ∧ Below W2.heap.size W2 w3) := ⟨h3, hb3⟩
  clear h3 hb3
  dsimp only
  go_wp2_with (go_at_call 4; fail)
  obtain ⟨W5, hW5⟩ : ∃ W5, W5 = (w3.alloc (.cells #[.slice none 0 0] 50)).alloc (.cells #[.pointer (some ⟨W2.heap.size, 0, none⟩), .pointer (some ⟨w3.heap.size, 0, none⟩)] 52) := ⟨_, rfl⟩
  have H5 := HID hW5
  rw [← hW5]
  clear hW5
  refine (new_all W5).mono ?_
  rintro e w6 ⟨rfl, h6, hb6⟩
  have H6 : Hid ((∀ T t, LineAt t (Irw.upd T W5.heap.size t) w6 W5.heap.size []) ∧ Below W5.heap.size W5 w6) := ⟨h6, hb6⟩
  clear h6 hb6
  dsimp only
  go_upto_region 4 with (fail)
  obtain ⟨W8, hW8⟩ : ∃ W8, W8 = (w6.alloc (.cells #[.slice none 0 0] 50)).alloc (.cells #[.pointer (some ⟨W5.heap.size, 0, none⟩), .pointer (some ⟨w6.heap.size, 0, none⟩)] 52) := ⟨_, rfl⟩
  have HL0 : Hid (∃ T, LW w w.heap.size 0 (two W2.heap.size W5.heap.size) (two w3.heap.size w6.heap.size) (two (w3.heap.size + 1) (w6.heap.size + 1)) (fun _ => []) T W8) := LW.first HK0.out HB2.out.1 HB2.out.2 H3.out.1 H3.out.2 H5.out H6.out.1 H6.out.2 hW8
  rw [← hW8]
  obtain ⟨A0, hA0⟩ : ∃ A0, A0 = w3.heap.size + 1 := ⟨_, rfl⟩
  obtain ⟨B0, hB0⟩ : ∃ B0, B0 = w6.heap.size + 1 := ⟨_, rfl⟩
  obtain ⟨Kb, hKb⟩ : ∃ Kb, Kb = w.heap.size := ⟨_, rfl⟩
  rw [← hA0, ← hB0, ← hKb] at HL0
  rw [← hA0, ← hB0, ← hKb]
  have HBB : Hid (two A0 B0 0 = A0 ∧ two A0 B0 1 = B0) := ⟨rfl, rfl⟩
  generalize two A0 B0 = B at HL0 HBB
  generalize two W2.heap.size W5.heap.size = P at HL0
  generalize two w3.heap.size w6.heap.size = Q at HL0
  clear hA0 hB0 hKb hW8 H3 H5 H6 HB2 HK0
  have HCL : Hid (∀ {T q L W}, LW w Kb q P Q B L T W → (A0 < W.heap.size ∧ W.cell? ⟨A0, 0, none⟩ = some (.pointer (some ⟨P 0, 0, none⟩)) ∧ W.cell? ⟨A0, 1, none⟩ = some (.pointer (some ⟨Q 0, 0, none⟩))) ∧ (B0 < W.heap.size ∧ W.cell? ⟨B0, 0, none⟩ = some (.pointer (some ⟨P 1, 0, none⟩)) ∧ W.cell? ⟨B0, 1, none⟩ = some (.pointer (some ⟨Q 1, 0, none⟩)))) := fun h => by
    have h0 := h.rb 0 (by omega)
    have h1 := h.rb 1 (by omega)
    rw [HBB.out.1] at h0
    rw [HBB.out.2] at h1
    exact ⟨⟨h0.lt, h0.c0, h0.c1⟩, h1.lt, h1.c0, h1.c1⟩
  obtain ⟨T0, hst0⟩ := HL0.out
  have HST0 := HID hst0
  obtain ⟨⟨la, a0, a1⟩, lb, b0, b1⟩ := HCL.out hst0
  clear hst0 HL0
  by_cases h600 : 600 < N
  · have q1 : (600 : Int) < (N : Int) := by omega
    clear h600
    go_wp2
    go_ret
    exact ⟨rfl, HST0.out.lp.bl⟩
  · have q1 : (N : Int) ≤ 600 := by omega
    go_wp2
    go_loopw [6] (fun i wr => ∃ k : Nat, k ≤ N ∧ i = .int .i64 (k : Int) ∧ Hid (∃ T q L, LW w Kb q P Q B L T wr ∧ q ≤ 3 * k ∧ ∀ j, j < 2 → (L j).length ≤ 3 * k)) (fun i _ => N - (intOf i).toNat)
    case atStart => exact ⟨0, Nat.zero_le _, rfl, T0, 0, _, HST0.out, Nat.zero_le _, fun j _ => by simp⟩
    case round =>
      clear HST0 a0 a1 b0 b1 la lb
      obtain ⟨k, hkN, rfl, HS⟩ := hrel
      rename World => wr
      obtain ⟨T, q, L, hst, hq, hlen⟩ := HS.out
      have HST := HID hst
      have HF := HID (And.intro hq hlen)
      obtain ⟨⟨la, a0, a1⟩, lb, b0, b1⟩ := HCL.out hst
      by_cases hlt : k < N
      · have q2 : (k : Int) < (N : Int) := by omega
        obtain ⟨b, off, ⟨kd, nn, sec⟩, rfl, hx, hbl, x0, x1, x2⟩ := (HD.out.1.below hst.lp.bl).at_ (k := k) (by rw [HD.out.2]; exact hlt)
        dsimp only at x0 x1 x2
        clear hx hst hq hlen HS
        go_upto_if 54 with (fail)
        obtain ⟨W1, hW1⟩ : ∃ W1, W1 = wr.alloc (.cells #[.int .i64 kd, .int .i64 nn, .bool sec] 54) := ⟨_, rfl⟩
        have hs1 : W1.heap.size = wr.heap.size + 1 := by rw [hW1]; simp
        have hb1 : Below wr.heap.size wr W1 := by rw [hW1]; exact (Below.refl _ _).alloc (Nat.le_refl _) _
        have ho1 : OB T W1 wr.heap.size ⟨kd, nn, sec⟩ := by rw [hW1]; exact OB.new (o := ⟨kd, nn, sec⟩) HST.out.lp.kept.2
        obtain ⟨W3, hW3⟩ : ∃ W3, W3 = W1.alloc (.cells #[.pointer (some ⟨P 0, 0, none⟩), .pointer (some ⟨Q 0, 0, none⟩)] 52) := ⟨_, rfl⟩
        have hb3 : Below W1.heap.size W1 W3 := by rw [hW3]; exact (Below.refl _ _).alloc (Nat.le_refl _) _
        have hr3 : RB T W3 (wr.heap.size + 1) (P 0) (Q 0) := by rw [hW3, ← hs1]; exact RB.new (fun b hb => HST.out.lp.kept.2 b (by omega))
        have hf3 : ∀ j, W3.frozen? ⟨wr.heap.size + 1, j, none⟩ = false := fun j => by rw [hW3, ← hs1]; exact World.frozen?_alloc_at _ _ _ _ rfl
        rw [← hW1, ← hW3]
        obtain ⟨ob, hob⟩ : ∃ ob, ob = wr.heap.size := ⟨_, rfl⟩
        obtain ⟨rb, hrb⟩ : ∃ rb, rb = wr.heap.size + 1 := ⟨_, rfl⟩
        have HB3 : Hid (Below wr.heap.size wr W3 ∧ wr.heap.size ≤ rb ∧ rb ≠ ob) := ⟨hb1.trans (hb3.mono hb1.size), by omega, by omega⟩
        have HO3 : Hid (OB T W3 ob ⟨kd, nn, sec⟩) := by rw [hob]; exact ho1.below hb3
        rw [← hrb] at hr3 hf3
        rw [← hrb, ← hob]
        have HR3 := HID hr3
        have c0 := hr3.c0
        have c1 := hr3.c1
        have f0 := hf3 0
        have f1 := hf3 1
        obtain ⟨_, _, d0, d1⟩ := HCL.out (HST.out.below HB3.out.1)
        clear hW1 hs1 hb1 ho1 hW3 hb3 hr3 hf3 hob hrb x0 x1 x2 a0 a1 b0 b1 la lb hbl
        go_cut [8] (fun u w' => u = .pointer (some ⟨rb, 0, none⟩) ∧ Hid (∃ i, i < 2 ∧ LW w Kb q P Q B L T w' ∧ RB T w' rb (P i) (Q i) ∧ OB T w' ob ⟨kd, nn, sec⟩))
        case first =>
          cases sec with
          | true =>
            go_wp2
            go_meet
            case rel => exact ⟨rfl, 1, by omega, HST.out.below ((HB3.out.1.setCell HB3.out.2.1 _).setCell HB3.out.2.1 _), HR3.out.turn _ _, (HO3.out.far HB3.out.2.2).far HB3.out.2.2⟩
          | false =>
            go_wp2
            go_meet
            case rel => exact ⟨rfl, 0, by omega, HST.out.below HB3.out.1, HR3.out, HO3.out⟩
        case rest =>
          obtain ⟨rfl, HC⟩ := hcut
          rename World => w4
          clear c0 c1 f0 f1 d0 d1 HST HB3 HO3 HR3
          obtain ⟨i, hi, hst4, hr4, ho4⟩ := HC.out
          have HI := HID hi
          have HST4 := HID (And.intro hst4 (And.intro hr4 ho4))
          clear hi hst4 hr4 ho4 HC
          go_wp2
          go_loopw [9] (fun v wq => ∃ m : Nat, m ≤ 3 ∧ v = .int .i64 (m : Int) ∧ Hid (∃ T q L, LW w Kb q P Q B L T wq ∧ q ≤ 3 * k + m ∧ (∀ j, j < 2 → (L j).length ≤ 3 * k + m) ∧ RB T wq rb (P i) (Q i) ∧ OB T wq ob ⟨kd, nn, sec⟩)) (fun v _ => 3 - (intOf v).toNat)
          case atStart => exact ⟨0, Nat.zero_le _, rfl, T, q, L, HST4.out.1, by have := HF.out.1; omega, fun j hj => by have := HF.out.2 j hj; omega, HST4.out.2.1, HST4.out.2.2⟩
          case round =>
            obtain ⟨m, hm, rfl, HM⟩ := hrel
            rename World => wq
            by_cases hm3 : m < 3
            · have q3 : (m : Int) < 3 := by omega
              obtain ⟨T5, q5, L5, hst5, hq5, hl5, hr5, ho5⟩ := HM.out
              have HPL : Hid (∀ mark : Int, Calls Tryz.prog 5 #[.agg #[.pointer (some ⟨P i, 0, none⟩), .pointer (some ⟨Q i, 0, none⟩)], .pointer (some ⟨Kb, 0, none⟩), .agg #[.int .i64 kd, .int .i64 nn, .bool sec], .int .i64 mark] wq fun e w' => e = .returned (.bool true) ∧ Hid (∃ T q L, LW w Kb q P Q B L T w' ∧ q ≤ 3 * k + (m + 1) ∧ (∀ j, j < 2 → (L j).length ≤ 3 * k + (m + 1)) ∧ RB T w' rb (P i) (Q i) ∧ OB T w' ob ⟨kd, nn, sec⟩)) := fun mark => by
                refine (hst5.lp.plays HI.out (by omega) (by have := hl5 i HI.out; omega) kd nn mark sec).mono ?_
                rintro e w' ⟨he, T6, N6, hN6, hlp6, hg6⟩
                refine ⟨he, T6, N6, _, hst5.next hlp6 hg6, by omega, fun j hj => ?_, hr5.goes hg6 (by omega), ho5.goes hg6 (by omega)⟩
                by_cases e : j = i
                · subst e
                  rw [put_same]
                  have := stp_len kd nn (L5 j)
                  have := hl5 j hj
                  omega
                · rw [put_other _ _ e]
                  have := hl5 j hj
                  omega
              have c0 := hr5.c0
              have c1 := hr5.c1
              have o0 := ho5.c0
              have o1 := ho5.c1
              have o2 := ho5.c2
              dsimp only at o0 o1 o2
              clear hst5 hq5 hl5 hr5 ho5 HM
              go_wp2_with (go_at_call 5; fail)
              refine (HPL.out _).mono ?_
              rintro e w6 ⟨rfl, HW6⟩
              clear HPL c0 c1 o0 o1 o2
              obtain ⟨T6, q6, L6, hst6, hq6, hl6, hr6, ho6⟩ := HW6.out
              have HHO := HID hst6.lp.kept.hold
              clear hst6 hq6 hl6 hr6 ho6
              dsimp only
              go_wp2_with (go_at_call 6; fail)
              refine HHO.out.mono ?_
              rintro e w7 ⟨rfl, hb7⟩
              have HW7 : Hid (∃ T q L, LW w Kb q P Q B L T w7 ∧ q ≤ 3 * k + (m + 1) ∧ (∀ j, j < 2 → (L j).length ≤ 3 * k + (m + 1)) ∧ RB T w7 rb (P i) (Q i) ∧ OB T w7 ob ⟨kd, nn, sec⟩) := by
                obtain ⟨T6, q6, L6, hst6, hq6, hl6, hr6, ho6⟩ := HW6.out
                exact ⟨T6, q6, L6, hst6.below hb7, hq6, hl6, hr6.below hb7, ho6.below hb7⟩
              clear hb7 HHO HW6
              dsimp only
              go_wp2
              go_roundw
              case rel => exact ⟨m + 1, by omega, by go_num, HW7⟩
              case measure => simp [intOf]; omega
            · obtain rfl : m = 3 := by omega
              obtain ⟨T5, q5, L5, hst5, hq5, hl5, _, _⟩ := HM.out
              have HST5 := HID hst5
              have HF5 := HID (And.intro hq5 hl5)
              clear hst5 hq5 hl5 HM
              go_wp2
              go_roundw
              case rel => exact ⟨k + 1, by omega, by go_num, T5, q5, L5, HST5.out, by have := HF5.out.1; omega, fun j hj => by have := HF5.out.2 j hj; omega⟩
              case measure => simp [intOf]; omega
      · obtain rfl : k = N := by omega
        clear hst hq hlen HS hlt
        have HE0 := HID (OB.new (o := ⟨4, 0, false⟩) (u := 54) HST.out.lp.kept.2)
        have HW0 := HID (HST.out.below ((Below.refl _ _).alloc (Nat.le_refl _) (.cells #[.int .i64 4, .int .i64 0, .bool false] 54)))
        clear a0 a1 b0 b1 la lb
        go_upto_region 19 with (fail)
        dsimp only at HE0
        generalize (wr.alloc (.cells #[.int .i64 4, .int .i64 0, .bool false] 54)) = W1 at HE0 HW0 ⊢
        obtain ⟨eb, heb⟩ : ∃ eb, eb = wr.heap.size := ⟨_, rfl⟩
        rw [← heb] at HE0
        rw [← heb]
        clear heb HST
        have HG : Hid (Hid (∃ T q L, LW w Kb q P Q B L T W1 ∧ q ≤ 3 * k ∧ (∀ j, j < 2 → (L j).length ≤ 3 * k) ∧ OB T W1 eb ⟨4, 0, false⟩)) := ⟨T, q, L, HW0.out, HF.out.1, HF.out.2, HE0.out⟩
        have HPL : Hid (∀ (c : Nat) (W : World) (i : Nat) (kd mark : Int), c ≤ 10 → i < 2 → Hid (∃ T q L, LW w Kb q P Q B L T W ∧ q ≤ 3 * k + c ∧ (∀ j, j < 2 → (L j).length ≤ 3 * k + c) ∧ OB T W eb ⟨4, 0, false⟩) → Calls Tryz.prog 5 #[.agg #[.pointer (some ⟨P i, 0, none⟩), .pointer (some ⟨Q i, 0, none⟩)], .pointer (some ⟨Kb, 0, none⟩), .agg #[.int .i64 kd, .int .i64 0, .bool false], .int .i64 mark] W fun e w' => e = .returned (.bool true) ∧ Hid (∃ T q L, LW w Kb q P Q B L T w' ∧ q ≤ 3 * k + (c + 1) ∧ (∀ j, j < 2 → (L j).length ≤ 3 * k + (c + 1)) ∧ OB T w' eb ⟨4, 0, false⟩)) := fun c W i kd mark hc hi hw => by
          obtain ⟨T5, q5, L5, hst5, hq5, hl5, ho5⟩ := hw.out
          refine (hst5.lp.plays hi (by omega) (by have := hl5 i hi; omega) kd 0 mark false).mono ?_
          rintro e w' ⟨he, T6, N6, hN6, hlp6, hg6⟩
          refine ⟨he, T6, N6, _, hst5.next hlp6 hg6, by omega, fun j hj => ?_, ho5.goes hg6 (by omega)⟩
          by_cases e : j = i
          · subst e
            rw [put_same]
            have := stp_len kd 0 (L5 j)
            have := hl5 j hj
            omega
          · rw [put_other _ _ e]
            have := hl5 j hj
            omega
        have HCE : Hid (∀ (c : Nat) (W : World), Hid (∃ T q L, LW w Kb q P Q B L T W ∧ q ≤ 3 * k + c ∧ (∀ j, j < 2 → (L j).length ≤ 3 * k + c) ∧ OB T W eb ⟨4, 0, false⟩) → (W.cell? ⟨A0, 0, none⟩ = some (.pointer (some ⟨P 0, 0, none⟩)) ∧ W.cell? ⟨A0, 1, none⟩ = some (.pointer (some ⟨Q 0, 0, none⟩)) ∧ W.cell? ⟨B0, 0, none⟩ = some (.pointer (some ⟨P 1, 0, none⟩)) ∧ W.cell? ⟨B0, 1, none⟩ = some (.pointer (some ⟨Q 1, 0, none⟩)) ∧ W.cell? ⟨eb, 0, none⟩ = some (.int .i64 4) ∧ W.cell? ⟨eb, 1, none⟩ = some (.int .i64 0) ∧ W.cell? ⟨eb, 2, none⟩ = some (.bool false))) := fun c W hw => by
          obtain ⟨T5, q5, L5, hst5, _, _, ho5⟩ := hw.out
          obtain ⟨⟨_, h1, h2⟩, _, h3, h4⟩ := HCL.out hst5
          exact ⟨h1, h2, h3, h4, ho5.c0, ho5.c1, ho5.c2⟩
        obtain ⟨e0, e1, e2, e3, e4, e5, e6⟩ := HCE.out 0 W1 HG.out
        clear HW0 HE0
        go_wp2_with (go_at_call 5; fail)
        refine (HPL.out 0 W1 0 4 (-5) (by omega) (by omega) HG.out).mono ?_
        rintro e v0 ⟨rfl, HV0⟩
        clear e0 e1 e2 e3 e4 e5 e6
        obtain ⟨e0, e1, e2, e3, e4, e5, e6⟩ := HCE.out 1 v0 HV0
        dsimp only
        go_wp2_with (go_at_call 5; fail)
        refine (HPL.out 1 v0 1 4 (-6) (by omega) (by omega) HV0).mono ?_
        rintro e v1 ⟨rfl, HV1⟩
        clear e0 e1 e2 e3 e4 e5 e6
        obtain ⟨e0, e1, e2, e3, e4, e5, e6⟩ := HCE.out 2 v1 HV1
        dsimp only
        go_wp2_with (go_at_call 5; fail)
        refine (HPL.out 2 v1 0 2 0 (by omega) (by omega) HV1).mono ?_
        rintro e v2 ⟨rfl, HV2⟩
        clear e0 e1 e2 e3 e4 e5 e6
        obtain ⟨e0, e1, e2, e3, e4, e5, e6⟩ := HCE.out 3 v2 HV2
        dsimp only
        go_wp2_with (go_at_call 5; fail)
        refine (HPL.out 3 v2 1 2 0 (by omega) (by omega) HV2).mono ?_
        rintro e v3 ⟨rfl, HV3⟩
        clear e0 e1 e2 e3 e4 e5 e6
        obtain ⟨e0, e1, e2, e3, e4, e5, e6⟩ := HCE.out 4 v3 HV3
        dsimp only
        obtain ⟨T9, q9, L9, hst9, _, _, _⟩ := HV3.out
        have HST9 := HID hst9
        clear hst9 e0 e1 e2 e3 e4 e5 e6
        go_wp2_with (go_at_call 6; fail)
        refine HST9.out.lp.kept.hold.mono ?_
        rintro e w9 ⟨rfl, hb9⟩
        have HB9 : Hid (Below w.heap.size w w9) := HST9.out.lp.bl.trans (hb9.mono HST9.out.lp.bl.size)
        clear hb9
        dsimp only
        go_wp2
        go_ret
        exact ⟨rfl, HB9.out⟩
end Lin
end Go.Proofs.YtpnomeggdhcbaaaGreatDoor
