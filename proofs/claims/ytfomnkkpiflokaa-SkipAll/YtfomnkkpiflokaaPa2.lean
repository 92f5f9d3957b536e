import Derived.Test.YtfomnkkpiflokaaPa1
import Derived.Deep.DeepCutAuto
namespace Go.Proofs.Ytfomnkkpiflokaa
namespace Sk
open Go.RowKit Laws Irw Erw KMath Skm Byt
set_option linter.unusedVariables false
set_option maxRecDepth 100000
set_option linter.unusedSimpArgs false

theorem HID5 {p : Prop} (h : p) : Hid p := h
theorem take_of_slice {l : List En} {n : Int} (h0 : 0 ≤ n) (h1 : n < (l.length : Int)) : tkn n l = l.take n.toNat ∧ (tkn n l).length = n.toNat := by
  have e : tkn n l = l.take n.toNat := by unfold tkn; rw [if_neg (by omega)]
  exact ⟨e, by rw [e, List.length_take]; omega⟩
set_option maxHeartbeats 4000000 in
theorem walks_any (t u : Nat) (T : Nat → Nat) (w : World) (L R : Nat) (ds : List Nat) (ns : List Nd) (bs : List Nat) (h : Pr t u T w L R ds ns bs) (hlen : ns.length ≤ 2932031007402) (kind : Int) (sec : Bool) (x : En) (nn : Int) :
    Calls Try.prog 42 #[.agg #[.pointer (some ⟨L, 0, none⟩), .pointer (some ⟨R, 0, none⟩)], .agg #[.int .i64 kind, .bool sec, .string x.1, .int .u64 x.2.1, .bool x.2.2.1, .string x.2.2.2, .int .i64 nn]] w fun e w' => e = .returned (.bool true) ∧ Below w.heap.size w w' := by
  obtain ⟨xk, xs, xd, xv⟩ := x
  dsimp only
  have HP : Hid (Pr t u T w L R ds ns bs) := h
  obtain ⟨N, hN⟩ : ∃ N, ns.length = N := ⟨_, rfl⟩
  have HN : Hid (ns.length = N) := hN
  rw [hN] at hlen
  obtain ⟨al, hal⟩ : ∃ al, (esN ns).drop (plc xk xs (esN ns)) = al := ⟨_, rfl⟩
  obtain ⟨K, hK⟩ : ∃ K, al.length = K := ⟨_, rfl⟩
  have HAL : Hid ((esN ns).drop (plc xk xs (esN ns)) = al ∧ al.length = K ∧ (esN ns).length - plc xk xs (esN ns) = K ∧ (ns.dropWhile (aheadB xk xs)).map Nd.e = al) := ⟨hal, hK, by rw [← hK, ← hal, List.length_drop], by rw [← hal]; exact (drop_from xk xs ns).symm⟩
  have hKN : (K : Int) ≤ 2932031007402 := by
    have h1 : K ≤ (esN ns).length := by rw [← hK, ← hal, List.length_drop]; omega
    rw [esN_len, hN] at h1
    omega
  have hb1 : Below w.heap.size w ((w.alloc (.cells #[.pointer (some ⟨L, 0, none⟩), .pointer (some ⟨R, 0, none⟩)] 48)).alloc (.cells #[.int .i64 kind, .bool sec, .string xk, .int .u64 xs, .bool xd, .string xv, .int .i64 nn] 55)) := ((Below.refl _ _).alloc (Nat.le_refl _) _).alloc (by simp) _
  have g1 : ((w.alloc (.cells #[.pointer (some ⟨L, 0, none⟩), .pointer (some ⟨R, 0, none⟩)] 48)).alloc (.cells #[.int .i64 kind, .bool sec, .string xk, .int .u64 xs, .bool xd, .string xv, .int .i64 nn] 55)).heap[w.heap.size]? = some (.cells #[.pointer (some ⟨L, 0, none⟩), .pointer (some ⟨R, 0, none⟩)] 48) := by
    rw [Below.heap_alloc _ _ _ (by simp)]; exact World.alloc_heap_new _ _
  have g2 : ((w.alloc (.cells #[.pointer (some ⟨L, 0, none⟩), .pointer (some ⟨R, 0, none⟩)] 48)).alloc (.cells #[.int .i64 kind, .bool sec, .string xk, .int .u64 xs, .bool xd, .string xv, .int .i64 nn] 55)).heap[w.heap.size + 1]? = some (.cells #[.int .i64 kind, .bool sec, .string xk, .int .u64 xs, .bool xd, .string xv, .int .i64 nn] 55) := by
    have := World.alloc_heap_new (w.alloc (.cells #[.pointer (some ⟨L, 0, none⟩), .pointer (some ⟨R, 0, none⟩)] 48)) (.cells #[.int .i64 kind, .bool sec, .string xk, .int .u64 xs, .bool xd, .string xv, .int .i64 nn] 55)
    rwa [World.size_alloc] at this
  have hs1 : ((w.alloc (.cells #[.pointer (some ⟨L, 0, none⟩), .pointer (some ⟨R, 0, none⟩)] 48)).alloc (.cells #[.int .i64 kind, .bool sec, .string xk, .int .u64 xs, .bool xd, .string xv, .int .i64 nn] 55)).heap.size = w.heap.size + 2 := by simp
  clear h hN hal hK
  go_enter Try.func42, Try.ntmps42
  go_upto_region 1 with (fail)
  generalize (w.alloc (.cells #[.pointer (some ⟨L, 0, none⟩), .pointer (some ⟨R, 0, none⟩)] 48)).alloc (.cells #[.int .i64 kind, .bool sec, .string xk, .int .u64 xs, .bool xd, .string xv, .int .i64 nn] 55) = W1 at *
  have HBX : Hid (∀ W, Below W1.heap.size W1 W → W.cell? ⟨w.heap.size, 0, none⟩ = some (.pointer (some ⟨L, 0, none⟩)) ∧ W.cell? ⟨w.heap.size, 1, none⟩ = some (.pointer (some ⟨R, 0, none⟩)) ∧ W.cell? ⟨w.heap.size + 1, 2, none⟩ = some (.string xk) ∧ W.cell? ⟨w.heap.size + 1, 3, none⟩ = some (.int .u64 xs) ∧ W.cell? ⟨w.heap.size + 1, 6, none⟩ = some (.int .i64 nn)) := fun W hW => by
    have k1 := (hW.block _ (by omega : w.heap.size < W1.heap.size)).trans g1
    have k2 := (hW.block _ (by omega : w.heap.size + 1 < W1.heap.size)).trans g2
    exact ⟨by rw [cell_of_obj k1]; rfl, by rw [cell_of_obj k1]; rfl, by rw [cell_of_obj k2]; rfl, by rw [cell_of_obj k2]; rfl, by rw [cell_of_obj k2]; rfl⟩
  have HB1 : Hid (Below w.heap.size w W1) := hb1
  clear hb1 g1 g2 hs1
  obtain ⟨p0, p1, o2, o3, o6⟩ := HBX.out W1 (Below.refl _ _)
  go_wp2_with fail
  refine (refFrom_any W1 R ds (esN ns) (hsN ns) bs (HP.out.below HB1.out).rl (by rw [esN_len, HN.out]; omega) xk xs).mono ?_
  rintro e w2 ⟨a2, c2, rfl, hi2, hc2, _, hb2⟩
  rw [HAL.out.1] at hi2
  rw [HAL.out.2.2.1] at hc2 ⊢
  have hc3 : (K : Int) ≤ (c2 : Int) := by omega
  clear hc2
  have HB2 : Hid (Below W1.heap.size W1 w2) := hb2
  have HI2 : Hid (IsE w2 a2 al) := hi2
  clear hi2 hb2 p0 p1 o2 o3 o6
  obtain ⟨p0, p1, o2, o3, o6⟩ := HBX.out w2 HB2.out
  go_wp2_with fail
  refine (from_any L xk xs w2).mono ?_
  rintro e w3 ⟨rfl, hw3⟩
  have hb3 : Below w2.heap.size w2 w3 := by rw [hw3]; exact (((Below.refl _ _).alloc (Nat.le_refl _) _).alloc (by simp) _).alloc (by simp; omega) _
  have k1 : w3.cell? ⟨w2.heap.size, 0, none⟩ = some (.pointer (some ⟨L, 0, none⟩)) := by
    rw [hw3, World.cell?_of_block (Below.heap_alloc _ _ _ (by simp <;> omega)), World.cell?_of_block (Below.heap_alloc _ _ _ (by simp <;> omega)), World.cell?_alloc_at _ _ _ _ rfl]; rfl
  have k2 : w3.cell? ⟨w2.heap.size + 1, 0, none⟩ = some (.string xk) := by
    rw [hw3, World.cell?_of_block (Below.heap_alloc _ _ _ (by simp <;> omega)), World.cell?_alloc_at _ _ _ _ (by simp)]; rfl
  have k3 : w3.cell? ⟨w2.heap.size + 2, 0, none⟩ = some (.int .u64 xs) := by
    rw [hw3, World.cell?_alloc_at _ _ _ _ (by simp)]; rfl
  clear hw3 p0 p1 o2 o3 o6
  have HB3 : Hid (Below W1.heap.size W1 w3) := keepB hb3 HB2.out
  have HI3 : Hid (IsE w3 a2 al) := HI2.out.below hb3
  have hsl3 : Sl t T w3 L ds ns := (HP.out.sl.below HB1.out).below HB3.out
  obtain ⟨pre, post, hwk⟩ := Wk.of hsl3 xk xs
  have hpo : post.map Nd.e = al := by rw [post_of hwk]; exact HAL.out.2.2.2
  have HTA : Hid (∀ W, Below w3.heap.size w3 W → Calls Try.prog 18 #[.func (.func 46) #[] #[.pointer (some ⟨w2.heap.size, 0, none⟩), .pointer (some ⟨w2.heap.size + 1, 0, none⟩), .pointer (some ⟨w2.heap.size + 2, 0, none⟩)], .int .i64 nn] W fun e w' => ∃ a c, e = .returned (.tuple #[.slice a (tkn nn al).length c, .bool true]) ∧ IsE w' a (tkn nn al) ∧ (a = none → c = 0) ∧ Below W.heap.size W w') := fun W hW => by
    have := taken_any nn w2.heap.size (w2.heap.size + 1) (w2.heap.size + 2) L xk xs ns pre post W (hwk.under hW) ((Und.cell k1 ⟨W, hW⟩)) ((Und.cell k2 ⟨W, hW⟩)) ((Und.cell k3 ⟨W, hW⟩)) (by rw [HN.out]; omega)
    rw [hpo] at this
    exact this
  clear hb3 k1 k2 k3 hsl3 hwk hpo HB2 HI2
  obtain ⟨p0, p1, o2, o3, o6⟩ := HBX.out w3 HB3.out
  generalize w2.heap.size = BF at *
  by_cases hn0 : 0 ≤ nn
  · have z0 : decide (0 ≤ nn) = true := decide_eq_true hn0
    by_cases hn1 : nn < (K : Int)
    · obtain ⟨e1, e2⟩ := take_of_slice (l := al) hn0 (by rw [HAL.out.2.1]; exact hn1)
      have HE1 : Hid (tkn nn al = al.take nn.toNat ∧ (tkn nn al).length = nn.toNat) := ⟨e1, e2⟩
      clear e1 e2
      obtain ⟨b2, o2', rfl, _⟩ := HI3.out.at_ (by rw [HAL.out.2.1]; omega)
      have z3 : nn ≤ (c2 : Int) := by omega
      have z4 : decide (nn < (K : Int)) = true := decide_eq_true hn1
      have HNK : Hid (nn < (K : Int)) := hn1
      go_upto_region 5 with (fail)
      obtain ⟨M, hM⟩ : ∃ M, (tkn nn al).length = M := ⟨_, rfl⟩
      have HM : Hid ((tkn nn al).length = M) := hM
      have hMb : M ≤ 2932031007402 := by rw [← hM, HE1.out.2]; have := HNK.out; omega
      rw [← HE1.out.2, hM]
      rw [hM] at HTA
      have HIW : Hid (IsE w3 (some ⟨b2, o2', none⟩) (tkn nn al)) := by
        rw [HE1.out.1]; exact IsE.take HI3.out _
      clear hM
      go_wp2
      go_loopw [7] (fun i wr => ∃ q : Nat, q ≤ 3 ∧ i = .int .i64 (q : Int) ∧ Hid (Below w3.heap.size w3 wr)) (fun i _ => 3 - (intOf i).toNat)
      case atStart => exact ⟨0, by omega, rfl, Below.refl _ _⟩
      case round =>
        obtain ⟨q, hq, rfl, HBR⟩ := hrel
        rename World => wa
        by_cases hlq : q < 3
        · have z1 : (q : Int) < 3 := by omega
          clear p0 p1 o2 o3 o6
          obtain ⟨p0, p1, o2, o3, o6⟩ := HBX.out wa (keepB HBR.out HB3.out)
          have HT2 : Hid _ := HTA.out wa HBR.out
          clear p0 p1 o2 o3
          go_wp2_with fail
          refine Calls.mono HT2.out ?_
          rintro e w5 ⟨a5, c5, rfl, hi5, hn5, hb5⟩
          have HSE : Hid (Calls Try.prog 23 #[.slice a5 M c5, .slice (some ⟨b2, o2', none⟩) M c2] w5 fun e w' => e = .returned (.bool true) ∧ ∃ n, w' = w5.drewN n) := sameEntries_true a5 _ c5 c2 M (tkn nn al) w5 hi5 ((HIW.out.below HBR.out).below hb5) HM.out (by omega)
          have HB5 : Hid (Below w3.heap.size w3 w5) := keepB hb5 HBR.out
          clear hi5 hn5 hb5 HT2 o6
          go_wp2_with fail
          refine HSE.out.mono ?_
          rintro e w6 ⟨rfl, n6, hw6⟩
          have HB6 : Hid (Below w3.heap.size w3 w6) := by rw [hw6]; exact below_drewN HB5.out _
          clear hw6 HSE HB5
          go_wp2
          go_roundw
          case rel => exact ⟨q + 1, by omega, by go_num, HB6⟩
          case measure => simp [intOf]; omega
        · obtain rfl : q = 3 := by omega
          go_wp2
          go_ret
          exact ⟨rfl, keepB (keepB HBR.out HB3.out) HB1.out⟩
    · have z1 : decide (nn < (K : Int)) = false := decide_eq_false hn1
      have e1 : tkn nn al = al := by
        unfold tkn
        rw [if_neg (by omega)]
        exact List.take_of_length_le (by rw [HAL.out.2.1]; omega)
      have HE1 : Hid (tkn nn al = al) := e1
      clear e1
      go_upto_region 5 with (fail)
      have e2 : K = (tkn nn al).length := by rw [HE1.out]; exact HAL.out.2.1.symm
      obtain ⟨M, hM⟩ : ∃ M, (tkn nn al).length = M := ⟨_, rfl⟩
      have HM : Hid ((tkn nn al).length = M) := hM
      have hMb : M ≤ 2932031007402 := by rw [← hM, HE1.out, HAL.out.2.1]; omega
      rw [e2, hM]
      rw [hM] at HTA
      have HIW : Hid (IsE w3 a2 (tkn nn al)) := by
        rw [HE1.out]; exact HI3.out
      clear hM e2
      go_wp2
      go_loopw [7] (fun i wr => ∃ q : Nat, q ≤ 3 ∧ i = .int .i64 (q : Int) ∧ Hid (Below w3.heap.size w3 wr)) (fun i _ => 3 - (intOf i).toNat)
      case atStart => exact ⟨0, by omega, rfl, Below.refl _ _⟩
      case round =>
        obtain ⟨q, hq, rfl, HBR⟩ := hrel
        rename World => wa
        by_cases hlq : q < 3
        · have z1 : (q : Int) < 3 := by omega
          clear p0 p1 o2 o3 o6
          obtain ⟨p0, p1, o2, o3, o6⟩ := HBX.out wa (keepB HBR.out HB3.out)
          have HT2 : Hid _ := HTA.out wa HBR.out
          clear p0 p1 o2 o3
          go_wp2_with fail
          refine Calls.mono HT2.out ?_
          rintro e w5 ⟨a5, c5, rfl, hi5, hn5, hb5⟩
          have HSE : Hid (Calls Try.prog 23 #[.slice a5 M c5, .slice a2 M c2] w5 fun e w' => e = .returned (.bool true) ∧ ∃ n, w' = w5.drewN n) := sameEntries_true a5 a2 c5 c2 M (tkn nn al) w5 hi5 ((HIW.out.below HBR.out).below hb5) HM.out (by omega)
          have HB5 : Hid (Below w3.heap.size w3 w5) := keepB hb5 HBR.out
          clear hi5 hn5 hb5 HT2 o6
          go_wp2_with fail
          refine HSE.out.mono ?_
          rintro e w6 ⟨rfl, n6, hw6⟩
          have HB6 : Hid (Below w3.heap.size w3 w6) := by rw [hw6]; exact below_drewN HB5.out _
          clear hw6 HSE HB5
          go_wp2
          go_roundw
          case rel => exact ⟨q + 1, by omega, by go_num, HB6⟩
          case measure => simp [intOf]; omega
        · obtain rfl : q = 3 := by omega
          go_wp2
          go_ret
          exact ⟨rfl, keepB (keepB HBR.out HB3.out) HB1.out⟩
  · have z0 : decide (0 ≤ nn) = false := decide_eq_false hn0
    have e1 : tkn nn al = al := by unfold tkn; rw [if_pos (by omega)]
    have HE1 : Hid (tkn nn al = al) := e1
    clear e1
    go_upto_region 5 with (fail)
    have e2 : K = (tkn nn al).length := by rw [HE1.out]; exact HAL.out.2.1.symm
    obtain ⟨M, hM⟩ : ∃ M, (tkn nn al).length = M := ⟨_, rfl⟩
    have HM : Hid ((tkn nn al).length = M) := hM
    have hMb : M ≤ 2932031007402 := by rw [← hM, HE1.out, HAL.out.2.1]; omega
    rw [e2, hM]
    rw [hM] at HTA
    have HIW : Hid (IsE w3 a2 (tkn nn al)) := by
      rw [HE1.out]; exact HI3.out
    clear hM e2
    go_wp2
    go_loopw [7] (fun i wr => ∃ q : Nat, q ≤ 3 ∧ i = .int .i64 (q : Int) ∧ Hid (Below w3.heap.size w3 wr)) (fun i _ => 3 - (intOf i).toNat)
    case atStart => exact ⟨0, by omega, rfl, Below.refl _ _⟩
    case round =>
      obtain ⟨q, hq, rfl, HBR⟩ := hrel
      rename World => wa
      by_cases hlq : q < 3
      · have z1 : (q : Int) < 3 := by omega
        clear p0 p1 o2 o3 o6
        obtain ⟨p0, p1, o2, o3, o6⟩ := HBX.out wa (keepB HBR.out HB3.out)
        have HT2 : Hid _ := HTA.out wa HBR.out
        clear p0 p1 o2 o3
        go_wp2_with fail
        refine Calls.mono HT2.out ?_
        rintro e w5 ⟨a5, c5, rfl, hi5, hn5, hb5⟩
        have HSE : Hid (Calls Try.prog 23 #[.slice a5 M c5, .slice a2 M c2] w5 fun e w' => e = .returned (.bool true) ∧ ∃ n, w' = w5.drewN n) := sameEntries_true a5 a2 c5 c2 M (tkn nn al) w5 hi5 ((HIW.out.below HBR.out).below hb5) HM.out (by omega)
        have HB5 : Hid (Below w3.heap.size w3 w5) := keepB hb5 HBR.out
        clear hi5 hn5 hb5 HT2 o6
        go_wp2_with fail
        refine HSE.out.mono ?_
        rintro e w6 ⟨rfl, n6, hw6⟩
        have HB6 : Hid (Below w3.heap.size w3 w6) := by rw [hw6]; exact below_drewN HB5.out _
        clear hw6 HSE HB5
        go_wp2
        go_roundw
        case rel => exact ⟨q + 1, by omega, by go_num, HB6⟩
        case measure => simp [intOf]; omega
      · obtain rfl : q = 3 := by omega
        go_wp2
        go_ret
        exact ⟨rfl, keepB (keepB HBR.out HB3.out) HB1.out⟩
end Sk
end Go.Proofs.Ytfomnkkpiflokaa
