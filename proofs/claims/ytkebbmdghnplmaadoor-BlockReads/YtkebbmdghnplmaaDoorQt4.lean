import Derived.Test.YtkebbmdghnplmaaDoorQt3
import Derived.Test.YtkebbmdghnplmaaDoorQs8
import Derived.BigQuiet
import Derived.Deep.DeepCutAuto
import Derived.Deep.RegionHeld3
namespace Go.Proofs.YtkebbmdghnplmaaDoor
namespace BlockTurns
open Go.RowKit Go.Shelf CMath Byt Laws Irw Crw Cod Qb Qt Tsr
set_option linter.unusedVariables false
set_option linter.unusedSimpArgs false
set_option maxRecDepth 100000
theorem bulk_le {l : List (List Nat)} {r : List Nat} (h : r ∈ l) : r.length + 1 ≤ (l.map bulkD).sum := by
  induction l with
  | nil => cases h
  | cons x l ih =>
    rw [List.map_cons, List.sum_cons]
    rcases List.mem_cons.1 h with rfl | h
    · unfold bulkD; omega
    · have := ih h; omega
theorem keepS {wq : World} {S : World → Prop} (h : ∀ W, Below wq.heap.size wq W → Below wq.heap.size wq W ∧ S W) {W W' : World} (h1 : Below wq.heap.size wq W ∧ S W) (h2 : Below W.heap.size W W') : Below wq.heap.size wq W' ∧ S W' := h W' (h1.1.trans (h2.mono h1.1.size))
theorem keepA {wq : World} {S : World → Prop} (h : ∀ W, Below wq.heap.size wq W → Below wq.heap.size wq W ∧ S W) {W : World} (h1 : Below wq.heap.size wq W ∧ S W) (o : Obj) : Below wq.heap.size wq (W.alloc o) ∧ S (W.alloc o) := h _ (h1.1.alloc h1.1.size o)
theorem skV_form (o : Option En) : ∃ xk xs xd xv xb, skV o = .tuple #[.agg #[.string xk, .int .u64 xs, .bool xd, .string xv], .bool xb] := by
  cases o with
  | none => exact ⟨_, _, _, _, _, rfl⟩
  | some e => exact ⟨_, _, _, _, _, rfl⟩
/-- an entry as it lies in a block of its own -/
def EntB (w : World) (B : Nat) (xk : ByteArray) (xs : Int) (xd : Bool) (xv : ByteArray) : Prop := B < w.heap.size ∧ w.cell? ⟨B, 0, none⟩ = some (.string xk) ∧ w.cell? ⟨B, 1, none⟩ = some (.int .u64 xs) ∧ w.cell? ⟨B, 2, none⟩ = some (.bool xd) ∧ w.cell? ⟨B, 3, none⟩ = some (.string xv)
theorem keepF {wq : World} {S : World → Prop} (h : ∀ W, Below wq.heap.size wq W → Below wq.heap.size wq W ∧ S W) {W : World} (h1 : Below wq.heap.size wq W ∧ S W) {B : Nat} (hB : wq.heap.size ≤ B) {v0 v1 v2 v3 : Value} : Below wq.heap.size wq ((((W.setCell ⟨B, 0, none⟩ v0).setCell ⟨B, 1, none⟩ v1).setCell ⟨B, 2, none⟩ v2).setCell ⟨B, 3, none⟩ v3) ∧ S ((((W.setCell ⟨B, 0, none⟩ v0).setCell ⟨B, 1, none⟩ v1).setCell ⟨B, 2, none⟩ v2).setCell ⟨B, 3, none⟩ v3) := h _ (four_below _ _ _ _ h1.1 hB)
theorem cellsNew {W w8 : World} {u : TypeId} (hb : Below (W.alloc (.cells #[.string ⟨#[]⟩, .int .u64 0, .bool false, .string ⟨#[]⟩] u)).drew.heap.size (W.alloc (.cells #[.string ⟨#[]⟩, .int .u64 0, .bool false, .string ⟨#[]⟩] u)).drew w8) :
    w8.cell? ⟨W.heap.size, 0, none⟩ = some (.string ⟨#[]⟩) ∧ w8.cell? ⟨W.heap.size, 1, none⟩ = some (.int .u64 0) ∧ w8.cell? ⟨W.heap.size, 2, none⟩ = some (.bool false) ∧ w8.cell? ⟨W.heap.size, 3, none⟩ = some (.string ⟨#[]⟩) ∧ ∀ j, w8.frozen? ⟨W.heap.size, j, none⟩ = false := by
  have hlt : W.heap.size < (W.alloc (.cells #[.string ⟨#[]⟩, .int .u64 0, .bool false, .string ⟨#[]⟩] u)).heap.size := by simp
  have g : w8.heap[W.heap.size]? = some (.cells #[.string ⟨#[]⟩, .int .u64 0, .bool false, .string ⟨#[]⟩] u) := (hb.block _ hlt).trans (World.alloc_heap_new W _)
  exact ⟨by rw [cell_of_obj g]; rfl, by rw [cell_of_obj g]; rfl, by rw [cell_of_obj g]; rfl, by rw [cell_of_obj g]; rfl, fun j => froz_of_obj g⟩
theorem alloc8 {w w8 : World} (hb : Below w.drew.heap.size w.drew w8) (o : Obj) : Below w.heap.size w (w8.alloc o) := by
  have h : Below w.heap.size w w8 := (Below.refl w.heap.size w).drew.trans hb
  exact h.alloc h.size o
theorem EntB.below {w w' : World} {B : Nat} {xk : ByteArray} {xs : Int} {xd : Bool} {xv : ByteArray} (h : EntB w B xk xs xd xv) (hb : Below w.heap.size w w') : EntB w' B xk xs xd xv := by
  obtain ⟨h1, h2, h3, h4, h5⟩ := h
  exact ⟨Nat.lt_of_lt_of_le h1 hb.size, (hb.cell (p := ⟨B, 0, none⟩) h1).trans h2, (hb.cell (p := ⟨B, 1, none⟩) h1).trans h3, (hb.cell (p := ⟨B, 2, none⟩) h1).trans h4, (hb.cell (p := ⟨B, 3, none⟩) h1).trans h5⟩
theorem ent_first {w w8 : World} {u : TypeId} {xk : ByteArray} {xs : Int} {xd : Bool} {xv : ByteArray} (hb : Below w.drew.heap.size w.drew w8) : Hid (Below w.heap.size w (w8.alloc (.cells #[.string xk, .int .u64 xs, .bool xd, .string xv] u)) ∧ EntB (w8.alloc (.cells #[.string xk, .int .u64 xs, .bool xd, .string xv] u)) w8.heap.size xk xs xd xv) := by
  have g := World.alloc_heap_new w8 (.cells #[.string xk, .int .u64 xs, .bool xd, .string xv] u)
  exact ⟨alloc8 hb _, by simp, by rw [cell_of_obj g]; rfl, by rw [cell_of_obj g]; rfl, by rw [cell_of_obj g]; rfl, by rw [cell_of_obj g]; rfl⟩
theorem ent_second {w w8 : World} {u : TypeId} {xk : ByteArray} {xs : Int} {xd : Bool} {xv : ByteArray} (hb : Below (w.alloc (.cells #[.string ⟨#[]⟩, .int .u64 0, .bool false, .string ⟨#[]⟩] u)).drew.heap.size (w.alloc (.cells #[.string ⟨#[]⟩, .int .u64 0, .bool false, .string ⟨#[]⟩] u)).drew w8) :
    Hid (Below w.heap.size w ((((w8.setCell ⟨w.heap.size, 0, none⟩ (.string xk)).setCell ⟨w.heap.size, 1, none⟩ (.int .u64 xs)).setCell ⟨w.heap.size, 2, none⟩ (.bool xd)).setCell ⟨w.heap.size, 3, none⟩ (.string xv)) ∧ EntB ((((w8.setCell ⟨w.heap.size, 0, none⟩ (.string xk)).setCell ⟨w.heap.size, 1, none⟩ (.int .u64 xs)).setCell ⟨w.heap.size, 2, none⟩ (.bool xd)).setCell ⟨w.heap.size, 3, none⟩ (.string xv)) w.heap.size xk xs xd xv) := by
  obtain ⟨k0, k1, k2, k3, _⟩ := cellsNew hb
  have hs : Below w.heap.size w (w.alloc (.cells #[.string ⟨#[]⟩, .int .u64 0, .bool false, .string ⟨#[]⟩] u)).drew := ((Below.refl w.heap.size w).alloc (Nat.le_refl _) _).drew
  have h4 := four_set (.string xk) (.int .u64 xs) (.bool xd) (.string xv) k0 k1 k2 k3
  have hlt : w.heap.size < w8.heap.size := World.block_lt_of_cell? w8 _ k0
  exact ⟨four_below _ _ _ _ (hs.trans (hb.mono hs.size)) (Nat.le_refl _), by simpa using hlt, h4.1, h4.2.1, h4.2.2.1, h4.2.2.2⟩
theorem undSh : Tryd.prog.underlying 38 = some (.slice kSh.ty) := by kernel_rfl
set_option maxHeartbeats 2000000 in
theorem walk (w : World) (ht : Tab w) (a : Option Addr) (cap N : Nat) (l : List (List Nat)) (hN : l.length = N) (hmx : (N : Int) ≤ 9223372036854775807) (hl : IsD w a l) (ka : Option Addr) (kc KN : Nat) (ks : List ByteArray) (hKN : ks.length = KN) (hkx : (KN : Int) ≤ 9223372036854775807) (hk : IsT w ka ks) (hks : ∀ s ∈ ks, s.size ≤ maxLen) :
    Calls Tryd.prog 5 #[.slice a N cap, .slice ka KN kc] w fun e w' => e = .returned (.bool true) ∧ Below w.heap.size w w' := by
  have HT : Hid (Tab w) := ht
  have HD : Hid (IsD w a l ∧ l.length = N) := ⟨hl, hN⟩
  have HK : Hid (IsT w ka ks ∧ ks.length = KN ∧ ∀ s ∈ ks, s.size ≤ maxLen) := ⟨hk, hKN, hks⟩
  obtain ⟨i8, hi8, hz0, hz1, hz2⟩ := info_parts info8
  obtain ⟨iS, hiS, hy0, hy1, hy2⟩ := info_parts infoSh
  clear ht hl hk hks hN hKN
  go_enter Tryd.func5, Tryd.ntmps5
  go_wp2_with (first
    | (go_at_call 10; go_loud (refine (many_any w).mono ?_; rintro e w1 ⟨rfl, hc1, hb1⟩; have HC1 : Hid (Ct w.heap.size w1 131072 ∧ Below w.heap.size w w1) := ⟨hc1, hb1⟩; clear hc1 hb1))
    | (go_at_call 11; fail))
  refine (chunks_c w.heap.size w w1 131072 a cap N l HD.out.2 hmx HC1.out.1 (Nat.le_refl _) HC1.out.2 HD.out.1).mono ?_
  rintro e w2 ⟨⟨v2, rfl⟩, z, hc2, hz, hb2⟩
  have HB2 : Hid (Below w.heap.size w w2) := hb2
  by_cases h30 : 30 < N
  · have q1 : (30 : Int) < (N : Int) := by omega
    clear hb2 hz hc2 h30
    go_wp2
    go_ret
    exact ⟨rfl, HB2.out⟩
  · have h30' : (N : Int) ≤ 30 := by omega
    by_cases h10 : 10 < KN
    · have q1 : (10 : Int) < (KN : Int) := by omega
      clear hb2 hz hc2 h30 h10
      go_wp2
      go_ret
      exact ⟨rfl, HB2.out⟩
    · have h10' : (KN : Int) ≤ 10 := by omega
      have x2 := hc2.2.1
      by_cases hz0' : 0 ≤ z
      · have HBK : Hid (∀ r ∈ l, r.length ≤ 131072) := fun r hr => by
          have h1 := (hz hz0').2
          have h2 := bulk_le hr
          omega
        clear hb2 hz hc2 h30 h10
        go_wp2_with (go_at_call 12; refine (ok_x w.heap.size w2 z true x2 (decide_eq_true hz0')).mono ?_; rintro r w3 ⟨rfl, rfl⟩)
        clear x2 hz0'
        have HT2 : Hid (Tab w3) := HT.out.below HB2.out HT.out.lt
        go_loopw [6, 7] (fun s i wr => ∃ (k XN : Nat) (T : Nat → Nat) (sa : Option Addr) (sc : Nat) (xs : List (Nat × Sv)) (ys : List (Nat × List Qb.En)), k ≤ N ∧ i = .int .i64 (k : Int) ∧ s = .slice sa XN sc ∧ Hid (Seen w3 T wr (.slice sa XN sc) xs ys ∧ xs.length = XN ∧ XN ≤ k)) (fun _ i _ => N - (intOf i).toNat)
        case atStart => exact ⟨0, 0, fun _ => 0, none, 0, [], [], Nat.zero_le _, rfl, rfl, Seen.nil w3, rfl, Nat.le_refl _⟩
        case round =>
          obtain ⟨k, XN, T, sa, sc, xs, ys, hkN, rfl, rfl, HS⟩ := hrel
          rename World => wr
          have HBW : Hid (Below w.heap.size w wr) := HB2.out.trans (HS.out.1.bl.mono HB2.out.size)
          by_cases hlt : k < N
          · have q1 : (k : Int) < (N : Int) := by omega
            have hkl : k < l.length := by rw [HD.out.2]; exact hlt
            obtain ⟨b, off, a1, c1, r, rfl, hx, hbl, c0, hi1, hn1, hl1, hm1⟩ := (HD.out.1.below HBW.out).at_ hkl
            obtain ⟨L, hL⟩ : ∃ L, r.length = L := ⟨_, rfl⟩
            have HR : Hid (IsB wr a1 r ∧ (a1 = none → c1 = 0) ∧ r.length = L ∧ L ≤ c1 ∧ c1 ≤ 9223372036854775807 ∧ L ≤ 131072) := ⟨hi1, hn1, hL, by omega, hm1, by rw [← hL]; exact HBK.out r (List.mem_of_getElem? hx)⟩
            rw [hL] at c0
            clear hx hi1 hn1 hl1 hm1 hL hkl
            have HOWN : Hid ((wr.alloc (.cells #[] 5)).ownsRow wr.heap.size 5 1 (.slice (some ⟨wr.heap.size, 0, none⟩) 0 0) 0 (cellsB [])) := World.ownsRow_lit wr #[] 0 (Nat.le_refl _) (by simp [maxLen]) (by simp)
            go_wp2_with (first
              | (at_builtin; go_loud (refine wpList_appB (by rfl) (.tmp 42) (.tmp 46) 22 (by rfl) wr.heap.size 5 i8 Tryd.underlying22 hi8 hz0 hz1 hz2 _ [] 0 (by rfl) HOWN.out a1 L c1 r (by rfl) HR.out.2.2.1.symm HR.out.2.1 (HR.out.1.below ((Below.refl _ _).alloc (Nat.le_refl _) _)) (by have := HR.out.2.2.2.2.2; omega) (by simp) ?_; intro u1 w4 hown1 hgr1 hnn1; obtain ⟨g4, d4, hu4, hl4, hm4, hi4, hb4⟩ := copy_b HR.out.2.2.1 hown1 hgr1 (hnn1 (by simp)) HR.out.1.2; subst hu4; have HC4 : Hid (L ≤ d4 ∧ d4 ≤ 9223372036854775807 ∧ IsB w4 (some ⟨g4, 0, none⟩) r ∧ Below wr.heap.size wr w4) := ⟨hl4, hm4, hi4, hb4⟩; have x0 := (hb4.cell (p := ⟨b, off + k, none⟩) hbl).trans c0; clear hown1 hgr1 hnn1 hl4 hm4 hi4 hb4))
              | (go_at_call 13; fail))
            have HB4 : Hid (Below w.heap.size w w4) := HBW.out.trans (HC4.out.2.2.2.mono HBW.out.size)
            have HOP := open_any a1 c1 L r w4 (HT.out.below HB4.out HT.out.lt) (HR.out.1.below HC4.out.2.2.2) HR.out.2.2.1.symm HR.out.2.2.2.1 HR.out.2.2.2.2.1 (by have := HR.out.2.2.2.2.2; have := HR.out.2.2.1; omega) HR.out.2.1
            refine HOP.mono ?_
            clear HOP
            rintro e w5 ⟨hb5, hop⟩
            have HB5 : Hid (Below w4.heap.size w4 w5) := hb5
            have y0 := (hb5.cell (p := ⟨b, off + k, none⟩) (World.block_lt_of_cell? w4 _ x0)).trans x0
            have HRO : Hid (Calls Tryd.prog 14 #[.slice (some ⟨g4, 0, none⟩) L d4] w5 fun e w' => DocIs w5 r e w') := refOpen_any _ d4 L r w5 (HC4.out.2.2.1.below hb5) HR.out.2.2.1.symm HC4.out.1 HC4.out.2.1 (by have := HR.out.2.2.2.2.2; omega)
            clear hb5 x0
            cases ho : opn r with
            | none =>
              rw [ho] at hop
              subst hop
              have HO : Hid (opn r = none) := ho
              clear ho
              dsimp only
              go_wp2_with (go_at_call 14; fail)
              refine HRO.out.mono ?_
              rintro e w6 ⟨hb6, ⟨_, v6, rfl⟩ | ⟨R6, l6, a6, n6, c6, h6, _⟩⟩
              · have HB6 : Hid (Below w5.heap.size w5 w6) := hb6
                have z0 := (hb6.cell (p := ⟨b, off + k, none⟩) (World.block_lt_of_cell? w5 _ y0)).trans y0
                have HBr6 : Hid (Below wr.heap.size wr w6) := HC4.out.2.2.2.trans ((HB5.out.trans (HB6.out.mono HB5.out.size)).mono HC4.out.2.2.2.size)
                have HSM : Hid (Calls Tryd.prog 15 #[.slice a1 L c1, .slice (some ⟨g4, 0, none⟩) L d4] w6 fun e w' => e = .returned (.bool true) ∧ Below w6.heap.size w6 w') := (same_any a1 (some ⟨g4, 0, none⟩) c1 d4 L L r w6 (HR.out.1.below HBr6.out) ((HC4.out.2.2.1.below HB5.out).below HB6.out) (by have := HR.out.2.2.2.2.2; have := HR.out.2.2.1; omega) HR.out.2.2.1.symm HR.out.2.2.1.symm).mono fun e w' ⟨h1, n9, h2⟩ => ⟨h1, by rw [h2]; exact below_drewN (Below.refl _ _) _⟩
                clear hb6 y0
                dsimp only
                go_wp2_with (first
                  | (go_at_call 15; go_loud (refine HSM.out.mono ?_; rintro e w7 ⟨rfl, hb7⟩; have HB7 : Hid (Below w6.heap.size w6 w7) := hb7; clear hb7))
                  | (go_at_call 16; go_loud (refine (num_any _ _).mono ?_; rintro e w9 ⟨rfl, hw⟩; have hw2 := hw.symm; clear hw; subst hw2)))
                have HS7 : Hid (Seen w3 T w7 (.slice sa XN sc) xs ys) := HS.out.1.below (HBr6.out.trans (HB7.out.mono HBr6.out.size))
                go_roundw
                case rel => exact ⟨k + 1, XN, T, sa, sc, xs, ys, by omega, by go_num, rfl, HS7.out, HS.out.2.1, by have := HS.out.2.2; omega⟩
                case measure => simp [intOf]; omega
              · rw [HO.out] at h6; cases h6
            | some y =>
              rw [ho] at hop
              obtain ⟨M, rfl, hbk⟩ := hop
              have HO : Hid (opn r = some y ∧ BlkF w4.heap.size w5 M 3 (pushes y.1 st0 y.2).b (pushes y.1 st0 y.2).p) := ⟨ho, hbk⟩
              clear ho hbk
              dsimp only
              go_wp2_with (go_at_call 14; fail)
              refine HRO.out.mono ?_
              rintro e w6 ⟨hb6, ⟨h6, _⟩ | ⟨R6, l6, a6, n6, c6, h6, rfl, hn6, hie6, hg6, hc6, hz6⟩⟩
              · rw [HO.out.1] at h6; cases h6
              · have hy6 : y = (R6, l6) := by rw [HO.out.1] at h6; exact Option.some.inj h6
                have HSH : Hid (ShOk T w6 (M, a6, n6, c6) y) := by
                  subst hy6
                  exact ShOk.of (w := w4) (HS.out.1.hi.below HC4.out.2.2.2.size) HO.out.2 hb6 HB5.out.size hie6 hn6 hg6
                have HB6 : Hid (Below w5.heap.size w5 w6) := hb6
                have z0 := (hb6.cell (p := ⟨b, off + k, none⟩) (World.block_lt_of_cell? w5 _ y0)).trans y0
                have HBr6 : Hid (Below wr.heap.size wr w6) := HC4.out.2.2.2.trans ((HB5.out.trans (HB6.out.mono HB5.out.size)).mono HC4.out.2.2.2.size)
                have HSM : Hid (Calls Tryd.prog 15 #[.slice a1 L c1, .slice (some ⟨g4, 0, none⟩) L d4] w6 fun e w' => e = .returned (.bool true) ∧ Below w6.heap.size w6 w') := (same_any a1 (some ⟨g4, 0, none⟩) c1 d4 L L r w6 (HR.out.1.below HBr6.out) ((HC4.out.2.2.1.below HB5.out).below HB6.out) (by have := HR.out.2.2.2.2.2; have := HR.out.2.2.1; omega) HR.out.2.2.1.symm HR.out.2.2.1.symm).mono fun e w' ⟨h1, n9, h2⟩ => ⟨h1, by rw [h2]; exact below_drewN (Below.refl _ _) _⟩
                clear hb6 y0 h6 hn6 hie6 hg6 hc6 hz6 hy6
                dsimp only
                go_wp2_with (first
                  | (go_at_call 15; go_loud (refine HSM.out.mono ?_; rintro e w7 ⟨rfl, hb7⟩; have HB7 : Hid (Below w6.heap.size w6 w7) := hb7; have HS7 : Hid (Seen w3 T w7 (.slice sa XN sc) xs ys) := HS.out.1.below (HBr6.out.trans (HB7.out.mono HBr6.out.size)); have HSH7 : Hid (ShOk T w7 (M, a6, n6, c6) y) := HSH.out.below hb7; clear hb7))
                  | (go_at_call 16; go_loud (refine (num_any _ _).mono ?_; rintro e w9 ⟨rfl, hw⟩; have hw2 := hw.symm; clear hw; subst hw2))
                  | (at_builtin; go_loud (refine wpList_appK kSh _ (by rfl) (.tmp 91) (.tmp 95) 38 (by rfl) iS undSh hiS hy0 hy1 hy2 9 T (.slice sa XN sc) xs (by rfl) ((HS7.out.below ((Below.refl _ _).alloc (Nat.le_refl _) _)).ow) (some ⟨w7.heap.size, 0, none⟩) 1 1 [(M, a6, n6, c6)] (by rfl) (by rfl) (by simp) isSh_new (by have := HS.out.2.1; have := HS.out.2.2; simp; omega) ?_; intro a8 c8 T8 w8 hown8 hgo8; have HS8 : Hid (Seen w3 T8 w8 (.slice a8 (xs.length + 1) c8) (xs ++ [(M, a6, n6, c6)]) (ys ++ [y])) := (HS7.out.below ((Below.refl _ _).alloc (Nat.le_refl _) _)).app (HSH7.out.below ((Below.refl _ _).alloc (Nat.le_refl _) _)) (by have := HR.out.2.2.2.2.2; have := HR.out.2.2.1; omega) HO.out.1 hgo8 hown8; clear hown8 hgo8)))
                go_roundw
                case rel => exact ⟨k + 1, XN + 1, T8, a8, c8, xs ++ [(M, a6, n6, c6)], ys ++ [y], by omega, by go_num, by rw [HS.out.2.1], by rw [← HS.out.2.1]; exact HS8.out, by rw [List.length_append, HS.out.2.1]; rfl, by have := HS.out.2.2; omega⟩
                case measure => simp [intOf]; omega
          · obtain rfl : k = N := by omega
            clear hlt HBK HT HT2
            have hXN : (XN : Int) ≤ 30 := by have := HS.out.2.2; omega
            go_wp2_with fail
            go_loopw [13] (fun i wq => ∃ (j : Nat) (x : Int), j ≤ XN ∧ i = .int .i64 x ∧ x = (j : Int) - 1 ∧ Hid (Below wr.heap.size wr wq)) (fun i _ => (intOf i + 1).toNat)
            case atStart => exact ⟨XN, _, Nat.le_refl _, rfl, by first | rfl | omega, Below.refl _ _⟩
            case round =>
              obtain ⟨j, x, hj, rfl, hx, HBQ⟩ := hrel
              rename World => wq
              rcases Nat.eq_zero_or_pos j with rfl | hjp
              · have hx1 : x < 0 := by omega
                have HBF : Hid (Below w.heap.size w wq) := HBW.out.trans (HBQ.out.mono HBW.out.size)
                clear hx
                go_wp2
                go_ret
                exact ⟨rfl, HBF.out⟩
              · obtain ⟨p, rfl⟩ : ∃ p, j = p + 1 := ⟨j - 1, by omega⟩
                obtain rfl : x = (p : Int) := by omega
                clear hx hjp
                have hpX : (p : Int) < (XN : Int) := by omega
                obtain ⟨g, o, M, a1, n1, c1, y, rfl, hg0, d0, d1, hsh, bb, hbb, hop⟩ := HS.out.1.at_ (k := p) (by have := HS.out.2.1; omega)
                have HPR : Hid (g < wr.heap.size ∧ wr.cell? ⟨g, o + p * 2, none⟩ = some (.pointer (some ⟨M, 3, none⟩)) ∧ wr.cell? ⟨g, o + p * 2 + 1, none⟩ = some (.slice a1 n1 c1)) := ⟨hg0, d0, d1⟩
                have c0 := (HBQ.out.cell (p := ⟨g, o + p * 2, none⟩) hg0).trans d0
                have c1' := (HBQ.out.cell (p := ⟨g, o + p * 2 + 1, none⟩) hg0).trans d1
                have hg : g < wq.heap.size := Nat.lt_of_lt_of_le hg0 HBQ.out.size
                clear d0 d1 hg0
                have HF := opn_facts hbb hop
                have HY : Hid (ShOk T wr (M, a1, n1, c1) y ∧ 1 ≤ y.1 ∧ chain ⟨#[]⟩ y.2 ∧ (∀ e ∈ y.2, 0 ≤ e.2.1) ∧ (pushes y.1 st0 y.2).b.length ≤ 131072 ∧ (pushes y.1 st0 y.2).p.length ≤ 131072 ∧ y.2.length ≤ 131072 ∧ (∀ e ∈ y.2, e.1.size ≤ 1000000) ∧ (wkp (pushes y.1 st0 y.2).b 0).map Prod.snd = y.2) := ⟨hsh, HF⟩
                have HL1 : Hid (n1 = y.2.length) := hsh.ln
                have HST : Hid (∀ W, Below wq.heap.size wq W → Below wq.heap.size wq W ∧ W.cell? ⟨g, o + p * 2, none⟩ = some (.pointer (some ⟨M, 3, none⟩)) ∧ W.cell? ⟨g, o + p * 2 + 1, none⟩ = some (.slice a1 n1 c1)) := fun W hb => ⟨hb, (hb.cell (p := ⟨g, o + p * 2, none⟩) hg).trans c0, (hb.cell (p := ⟨g, o + p * 2 + 1, none⟩) hg).trans c1'⟩
                have HGV : Hid (∀ W, (Below wq.heap.size wq W ∧ W.cell? ⟨g, o + p * 2, none⟩ = some (.pointer (some ⟨M, 3, none⟩)) ∧ W.cell? ⟨g, o + p * 2 + 1, none⟩ = some (.slice a1 n1 c1)) → Calls Tryd.prog 18 #[.pointer (some ⟨M, 3, none⟩), .int .i64 (-1)] W fun e w' => ∃ a c, e = .returned (.slice a n1 c) ∧ Hid (Erw.IsE w' a y.2) ∧ Below W.heap.size W w') := fun W hS => by
                  have h1 := given_any W M 3 _ _ (-1) (((HY.out.1.bl.below HBQ.out).below hS.1).z) (by have := HY.out.2.2.2.2.1; omega)
                  rw [gv_neg, HY.out.2.2.2.2.2.2.2.2] at h1
                  refine h1.mono fun e w' ⟨a, c, e1, e2, _, _, _, e3⟩ => ⟨a, c, by rw [HL1.out]; exact e1, e2, e3⟩
                have HSE : Hid (∀ W a c, Erw.IsE W a y.2 → (Below wq.heap.size wq W ∧ W.cell? ⟨g, o + p * 2, none⟩ = some (.pointer (some ⟨M, 3, none⟩)) ∧ W.cell? ⟨g, o + p * 2 + 1, none⟩ = some (.slice a1 n1 c1)) → Calls Tryd.prog 17 #[.slice a n1 c, .slice a1 n1 c1] W fun e w' => e = .returned (.bool true) ∧ Below W.heap.size W w') := fun W a c hi hS =>
                  sameEntries_true a a1 c c1 n1 n1 y.2 W hi ((HY.out.1.en.below HBQ.out).below hS.1) HL1.out HL1.out (by have := HL1.out; have := HY.out.2.2.2.2.2.2.1; omega)
                clear hsh HF hbb hop
                go_wp2
                go_region_held3 (fun W => Below wq.heap.size wq W ∧ W.cell? ⟨g, o + p * 2, none⟩ = some (.pointer (some ⟨M, 3, none⟩)) ∧ W.cell? ⟨g, o + p * 2 + 1, none⟩ = some (.slice a1 n1 c1)) (first | assumption | exact HST.out _ (Below.refl _ _).drew | exact keepS HST.out (by assumption) (by assumption))
                  (first
                    | (go_at_call 18; refine (HGV.out _ (by assumption)).mono ?_; rintro e w6 ⟨a6, c6, rfl, HI6, hb6⟩)
                    | (go_at_call 17; refine (HSE.out _ _ _ HI6.out (by assumption)).mono ?_; rintro e w7 ⟨rfl, hb7⟩))
                have HB7 : Hid (Below wq.heap.size wq w7) := by rename_i hz; exact hz.1
                have HBr7 : Hid (Below wr.heap.size wr w7) := HBQ.out.trans (HB7.out.mono HBQ.out.size)
                clear HGV HSE HST HB7 HBQ
                rename_i hzz
                clear hzz
                go_wp2
                go_loopw [14] (fun i wt => ∃ m : Nat, m ≤ KN ∧ i = .int .i64 (m : Int) ∧ Hid (Below wr.heap.size wr wt)) (fun i _ => KN - (intOf i).toNat)
                case atStart => exact ⟨0, Nat.zero_le _, rfl, HBr7⟩
                case round =>
                  obtain ⟨m, hm, rfl, HBT⟩ := hrel
                  rename World => wt
                  by_cases hmt : m < KN
                  · have q2 : (m : Int) < (KN : Int) := by omega
                    have HBwt : Hid (Below w.heap.size w wt) := HBW.out.trans (HBT.out.mono HBW.out.size)
                    obtain ⟨kb, ko, key, rfl, hky, hkb, kc0⟩ := (HK.out.1.below HBwt.out).at_ (k := m) (by rw [HK.out.2.1]; exact hmt)
                    have HKY : Hid (key.size ≤ maxLen) := HK.out.2.2 key (List.mem_of_getElem? hky)
                    obtain ⟨xk, xs', xd, xv, xb, hsv⟩ := skV_form (skE y.2 key)
                    have hgt : g < wt.heap.size := Nat.lt_of_lt_of_le HPR.out.1 HBT.out.size
                    have t0 := (HBT.out.cell (p := ⟨g, o + p * 2, none⟩) HPR.out.1).trans HPR.out.2.1
                    have t1 := (HBT.out.cell (p := ⟨g, o + p * 2 + 1, none⟩) HPR.out.1).trans HPR.out.2.2
                    have HS1 : Hid (∀ W, Below wt.heap.size wt W → Below wt.heap.size wt W ∧ W.cell? ⟨g, o + p * 2, none⟩ = some (.pointer (some ⟨M, 3, none⟩)) ∧ W.cell? ⟨kb, ko + m, none⟩ = some (.string key)) := fun W hb => ⟨hb, (hb.cell (p := ⟨g, o + p * 2, none⟩) hgt).trans t0, (hb.cell (p := ⟨kb, ko + m, none⟩) hkb).trans kc0⟩
                    have HSK : Hid (∀ W, (Below wt.heap.size wt W ∧ W.cell? ⟨g, o + p * 2, none⟩ = some (.pointer (some ⟨M, 3, none⟩)) ∧ W.cell? ⟨kb, ko + m, none⟩ = some (.string key)) → Calls Tryd.prog 19 #[.pointer (some ⟨M, 3, none⟩), .string key] W fun e w' => e = .returned (.tuple #[.agg #[.string xk, .int .u64 xs', .bool xd, .string xv], .bool xb]) ∧ Below W.heap.size W w') := fun W hS => by
                      rw [← hsv]
                      exact seek_any W M 3 y.1 y.2 key HY.out.2.1 (((HY.out.1.bl.below HBT.out).below hS.1).z) HY.out.2.2.1 HY.out.2.2.2.1 (by have := HY.out.2.2.2.2.1; omega) (by have := HY.out.2.2.2.2.2.1; omega)
                    have HT1 : Hid (g < wt.heap.size ∧ kb < wt.heap.size ∧ wt.cell? ⟨g, o + p * 2 + 1, none⟩ = some (.slice a1 n1 c1) ∧ wt.cell? ⟨kb, ko + m, none⟩ = some (.string key) ∧ skV (skE y.2 key) = .tuple #[.agg #[.string xk, .int .u64 xs', .bool xd, .string xv], .bool xb]) := ⟨hgt, hkb, t1, kc0, hsv⟩
                    clear hky hsv hgt t1 hkb hmt
                    go_upto_region 24 with (fail)
                    go_cut [15, 16] (fun v u w' => ∃ B : Nat, v = .pointer (some ⟨B, 0, none⟩) ∧ u = .bool xb ∧ Hid (Below wt.heap.size wt w' ∧ EntB w' B xk xs' xd xv))
                    case first =>
                      go_region_held3 (fun W => Below wt.heap.size wt W ∧ W.cell? ⟨g, o + p * 2, none⟩ = some (.pointer (some ⟨M, 3, none⟩)) ∧ W.cell? ⟨kb, ko + m, none⟩ = some (.string key)) (first | assumption | exact HS1.out _ (Below.refl _ _).drew | exact keepS HS1.out (by assumption) (by assumption) | exact keepA HS1.out (by assumption) _ | exact keepF HS1.out (by assumption) (Nat.le_refl _) | exact HS1.out _ (alloc8 hb8 _))
                        (first
                          | (go_at_call 19; refine (HSK.out _ (by assumption)).mono ?_; rintro e w8 ⟨rfl, hb8⟩; try (have k0 : w8.cell? ⟨wt.heap.size, 0, none⟩ = some (.string ⟨#[]⟩) := (cellsNew hb8).1; have k1 : w8.cell? ⟨wt.heap.size, 1, none⟩ = some (.int .u64 0) := (cellsNew hb8).2.1; have k2 : w8.cell? ⟨wt.heap.size, 2, none⟩ = some (.bool false) := (cellsNew hb8).2.2.1; have k3 : w8.cell? ⟨wt.heap.size, 3, none⟩ = some (.string ⟨#[]⟩) := (cellsNew hb8).2.2.2.1; have kz : ∀ j, w8.frozen? ⟨wt.heap.size, j, none⟩ = false := (cellsNew hb8).2.2.2.2)))
                      · go_wp2
                        go_meet
                        case rel => exact ⟨_, rfl, rfl, ent_first hb8⟩
                      · go_wp2
                        go_meet
                        case rel => exact ⟨_, rfl, rfl, ent_second hb8⟩
                    case rest =>
                      obtain ⟨B1, rfl, rfl, HE1⟩ := hcut
                      rename World => wu
                      have r0 := (HE1.out.1.cell (p := ⟨g, o + p * 2 + 1, none⟩) HT1.out.1).trans HT1.out.2.2.1
                      have r1 := (HE1.out.1.cell (p := ⟨kb, ko + m, none⟩) HT1.out.2.1).trans HT1.out.2.2.2.1
                      have hgu : g < wu.heap.size := Nat.lt_of_lt_of_le HT1.out.1 HE1.out.1.size
                      have hku : kb < wu.heap.size := Nat.lt_of_lt_of_le HT1.out.2.1 HE1.out.1.size
                      have HBU : Hid (Below wr.heap.size wr wu) := HBT.out.trans (HE1.out.1.mono HBT.out.size)
                      have HS2 : Hid (∀ W, Below wu.heap.size wu W → Below wu.heap.size wu W ∧ W.cell? ⟨g, o + p * 2 + 1, none⟩ = some (.slice a1 n1 c1) ∧ W.cell? ⟨kb, ko + m, none⟩ = some (.string key)) := fun W hb => ⟨hb, (hb.cell (p := ⟨g, o + p * 2 + 1, none⟩) hgu).trans r0, (hb.cell (p := ⟨kb, ko + m, none⟩) hku).trans r1⟩
                      have HRK : Hid (∀ W, (Below wu.heap.size wu W ∧ W.cell? ⟨g, o + p * 2 + 1, none⟩ = some (.slice a1 n1 c1) ∧ W.cell? ⟨kb, ko + m, none⟩ = some (.string key)) → Calls Tryd.prog 20 #[.slice a1 n1 c1, .string key] W fun e w' => e = .returned (.tuple #[.agg #[.string xk, .int .u64 xs', .bool xd, .string xv], .bool xb]) ∧ Below W.heap.size W w') := fun W hS => by
                        rw [← HT1.out.2.2.2.2]
                        exact refSeek_any a1 c1 n1 y.2 key W ((HY.out.1.en.below HBU.out).below hS.1) HL1.out (by have := HL1.out; have := HY.out.2.2.2.2.2.2.1; omega) HKY.out HY.out.2.2.2.2.2.2.2.1
                      clear hgu hku t0 kc0 HS1 HSK
                      go_upto_region 25 with (fail)
                      go_cut [17, 18] (fun v u w' => ∃ B : Nat, v = .pointer (some ⟨B, 0, none⟩) ∧ u = .bool xb ∧ Hid (Below wu.heap.size wu w' ∧ EntB w' B xk xs' xd xv))
                      case first =>
                        go_region_held3 (fun W => Below wu.heap.size wu W ∧ W.cell? ⟨g, o + p * 2 + 1, none⟩ = some (.slice a1 n1 c1) ∧ W.cell? ⟨kb, ko + m, none⟩ = some (.string key)) (first | assumption | exact HS2.out _ (Below.refl _ _).drew | exact keepS HS2.out (by assumption) (by assumption) | exact keepA HS2.out (by assumption) _ | exact keepF HS2.out (by assumption) (Nat.le_refl _) | exact HS2.out _ (alloc8 hb8 _))
                          (first
                            | (go_at_call 20; refine (HRK.out _ (by assumption)).mono ?_; rintro e w8 ⟨rfl, hb8⟩; try (have k0 : w8.cell? ⟨wu.heap.size, 0, none⟩ = some (.string ⟨#[]⟩) := (cellsNew hb8).1; have k1 : w8.cell? ⟨wu.heap.size, 1, none⟩ = some (.int .u64 0) := (cellsNew hb8).2.1; have k2 : w8.cell? ⟨wu.heap.size, 2, none⟩ = some (.bool false) := (cellsNew hb8).2.2.1; have k3 : w8.cell? ⟨wu.heap.size, 3, none⟩ = some (.string ⟨#[]⟩) := (cellsNew hb8).2.2.2.1; have kz : ∀ j, w8.frozen? ⟨wu.heap.size, j, none⟩ = false := (cellsNew hb8).2.2.2.2)))
                        · go_wp2
                          go_meet
                          case rel => exact ⟨_, rfl, rfl, ent_first hb8⟩
                        · go_wp2
                          go_meet
                          case rel => exact ⟨_, rfl, rfl, ent_second hb8⟩
                      case rest =>
                        obtain ⟨B2, rfl, rfl, HE2⟩ := hcut
                        rename World => wv
                        obtain ⟨_, e0, e1, e2, e3⟩ := HE1.out.2.below HE2.out.1
                        obtain ⟨_, f0, f1, f2, f3⟩ := HE2.out.2
                        have HBV : Hid (Below wr.heap.size wr wv) := HBU.out.trans (HE2.out.1.mono HBU.out.size)
                        clear r0 r1 HS2 HRK HBU HE1 HE2
                        go_wp2
                        go_roundw
                        case rel => exact ⟨m + 1, by omega, by go_num, HBV⟩
                        case measure => simp [intOf]; omega
                  · obtain rfl : m = KN := by omega
                    clear hmt
                    go_wp2
                    go_roundw
                    case rel => exact ⟨p, _, by omega, rfl, by first | rfl | omega, HBT⟩
                    case measure => simp [intOf]
      · have HOK := ok_x w.heap.size w2 z false x2 (decide_eq_false hz0')
        have HOK2 : Hid (Calls Tryd.prog 12 #[.pointer (some ⟨w.heap.size, 0, none⟩)] w2 fun r w' => r = .returned (.bool false) ∧ w' = w2) := HOK
        clear hb2 hz hc2 h30 h10 HOK hz0' x2
        go_wp2_with (go_at_call 12; fail)
        refine HOK2.out.mono ?_
        rintro r w3 ⟨rfl, hw3⟩
        have HB3 : Hid (Below w.heap.size w w3) := by rw [hw3]; exact HB2.out
        clear hw3
        go_wp2
        go_ret
        exact ⟨rfl, HB3.out⟩
end BlockTurns
end Go.Proofs.YtkebbmdghnplmaaDoor
