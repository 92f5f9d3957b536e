import Derived.Test.YtnhhalabmmcemaaDoorQb1
import Derived.Test.YtnhhalabmmcemaaDoorTxp
import Derived.Test.YtnhhalabmmcemaaDoorBat7
import Derived.Deep.QuietTactic
import Derived.BigQuiet
import Derived.Lib.MinMax
import Derived.Lib.Strings
namespace Go.Proofs.YtnhhalabmmcemaaDoor
namespace Qb
open Go.RowKit CMath Byt Laws Irw Crw Cod
set_option linter.unusedVariables false
set_option linter.unusedSimpArgs false
set_option maxRecDepth 20000

theorem or_word {acc x k : Nat} (hacc : acc < 256 ^ k) (hx : x < 256) (hk : k ≤ 3) :
    acc + x * 256 ^ k < 4294967296 ∧ bits .or .u32 (acc : Int) (IntKind.u32.wrap ((x : Int) * 2 ^ (8 * k))) = ((acc + x * 256 ^ k : Nat) : Int) := by
  have e2 : (2 : Nat) ^ (8 * k) = 256 ^ k := by rw [Nat.pow_mul]
  have hp : 256 ^ k ≤ 256 ^ 3 := Nat.pow_le_pow_right (by omega) hk
  have h1 : (x + 1) * 256 ^ k ≤ 256 * 256 ^ 3 := Nat.mul_le_mul (by omega) hp
  rw [Nat.add_mul, Nat.one_mul] at h1
  have : 256 * 256 ^ 3 = 4294967296 := by decide
  refine ⟨by omega, ?_⟩
  have hpos : 0 < 256 ^ k := Nat.pow_pos (by omega)
  have e1 : IntKind.u32.wrap ((x : Int) * 2 ^ (8 * k)) = ((x * 256 ^ k : Nat) : Int) := by
    have : ((x : Int) * 2 ^ (8 * k)) = ((x * 256 ^ k : Nat) : Int) := by rw [← e2]; simp
    rw [this, IntKind.wrap_u32]
    omega
  rw [e1, u32_or_nat _ _ (by omega) (by omega)]
  congr 1
  have := Nat.two_pow_add_eq_or_of_lt (i := 8 * k) (b := acc) (by rw [e2]; exact hacc) x
  rw [e2] at this
  rw [Nat.or_comm, Nat.mul_comm x, ← this, Nat.add_comm]
theorem val_take_succ {l : List Nat} {k x : Nat} (h : l[k]? = some x) : val (l.take (k + 1)) = val (l.take k) + x * 256 ^ k := by
  have hk : k < l.length := (List.getElem?_eq_some_iff.1 h).1
  rw [List.take_add_one, h, val_append]
  simp [val]
  rw [Nat.min_eq_left (by omega), Nat.mul_comm]

set_option maxHeartbeats 1000000 in
theorem word_any (a : Option Addr) (cap n : Nat) (l : List Nat) (w : World) (ha : IsB w a l) (hl : l.length = 4) (hn : n = 4) :
    Calls Tryd.prog 90 #[.slice a n cap] w fun e w' => e = .returned (.int .u32 ((val l : Nat) : Int)) ∧ w' = w := by
  subst hn
  obtain ⟨b, off, rfl, hr⟩ := ha.1 (by rintro rfl; simp at hl)
  have HB : Hid (∀ x ∈ l, x < 256) := ha.2
  have HR : Hid (BRow w b off l) := hr
  clear ha hr
  go_enter Tryd.func90, Tryd.ntmps90
  go_wp2
  go_loopw [3, 5] (fun v i wr => ∃ k : Nat, k ≤ 4 ∧ v = .int .u32 ((val (l.take k) : Nat) : Int) ∧ i = .int .i64 (k : Int) ∧ wr = w) (fun _ i _ => 4 - (intOf i).toNat)
  case atStart => exact ⟨0, by omega, by simp [val], rfl, rfl⟩
  case round =>
    obtain ⟨k, hk, rfl, rfl, rfl⟩ := hrel
    by_cases hlt : k < 4
    · obtain ⟨x, hx⟩ : ∃ x, l[k]? = some x := ⟨_, List.getElem?_eq_getElem (by omega)⟩
      have c0 := HR.out.2 k _ hx
      have hxb : x < 256 := HB.out x (List.mem_of_getElem? hx)
      have hv := val_lt (l.take k) (fun y hy => HB.out y (List.mem_of_mem_take hy))
      rw [List.length_take, Nat.min_eq_left (by omega)] at hv
      have ho := (or_word hv hxb (by omega)).2
      rw [← val_take_succ hx] at ho
      have HO : Hid (bits .or .u32 ((val (l.take k) : Nat) : Int) (IntKind.u32.wrap ((x : Int) * 2 ^ (8 * k))) = ((val (l.take (k + 1)) : Nat) : Int)) := ho
      clear hx ho hv
      have q1 : (k : Int) < 4 := by omega
      generalize val (l.take k) = V at *
      go_wp2
      go_roundw
      case rel => exact ⟨k + 1, by omega, by rw [← HO.out]; rfl, by go_num, trivial⟩
      case measure => simp [intOf]; omega
    · have hk4 : k = 4 := by omega
      subst hk4
      have e : l.take 4 = l := List.take_of_length_le (by omega)
      go_wp2
      go_ret
      rw [e]
      exact ⟨rfl, rfl⟩

theorem fourK (x k : Nat) : (four x)[k]? = if k < 4 then some (x / 256 ^ k % 256) else none := by
  unfold four
  match k with
  | 0 => simp
  | 1 => simp
  | 2 => simp
  | 3 => simp
  | k + 4 => simp
theorem shr_word {x k : Nat} : ((x : Int) / 2 ^ (8 * k)) % 256 = ((x / 256 ^ k % 256 : Nat) : Int) := by
  have e2 : (2 : Nat) ^ (8 * k) = 256 ^ k := by rw [Nat.pow_mul]
  have : (2 : Int) ^ (8 * k) = ((256 ^ k : Nat) : Int) := by rw [← e2]; simp
  rw [this]
  norm_cast
set_option maxHeartbeats 1000000 in
theorem putWord_any (t : Nat) (T : Nat → Nat) (v : Value) (pre : List Nat) (x : Nat) (w : World) (hown : OwnB t T w v pre) (hx : x < 4294967296) (hk : pre.length ≤ 100000000000) :
    Calls Tryd.prog 60 #[v, .int .u32 (x : Int)] w fun e w' => ∃ v' T', e = .returned v' ∧ OwnB t T' w' v' (pre ++ four x) ∧ Goes (· = t) T w T' w' := by
  have HO : Hid (OwnB t T w v pre) := hown
  clear hown
  go_enter Tryd.func60, Tryd.ntmps60
  go_wp2
  go_loopw [0, 6] (fun v i wr => ∃ (k : Nat) (T' : Nat → Nat), k ≤ 4 ∧ i = .int .i64 (k : Int) ∧ Hid (OwnB t T' wr v (pre ++ (four x).take k) ∧ Goes (· = t) T w T' wr)) (fun _ i _ => 4 - (intOf i).toNat)
  case atStart => exact ⟨0, T, by omega, rfl, by simpa using HO.out, Goes.refl _ _ _⟩
  case round =>
    obtain ⟨k, T', hk4, rfl, HI⟩ := hrel
    rename World => wr
    by_cases hlt : k < 4
    · have q1 : (k : Int) < 4 := by omega
      have hl : (pre ++ (four x).take k).length = pre.length + k := by simp [four]; omega
      have hfk : (four x).take (k + 1) = (four x).take k ++ [x / 256 ^ k % 256] := by
        rw [List.take_add_one, fourK, if_pos hlt]; rfl
      have HL : Hid ((pre ++ (four x).take k).length = pre.length + k ∧ (four x).take (k + 1) = (four x).take k ++ [x / 256 ^ k % 256]) := ⟨hl, hfk⟩
      clear hl hfk
      obtain ⟨a0, c0, e0, _⟩ := HI.out.1.form
      subst e0
      go_wp2_with (at_builtin; go_loud (refine wpList_app8 _ (by rfl) (.tmp 9) (.tmp 15) (by rfl) t T' _ (pre ++ (four x).take k) (by rfl) (HI.out.1.below ((Below.refl _ _).alloc (Nat.le_refl _) _)) (some ⟨wr.heap.size, 0, none⟩) 1 1 [x / 256 ^ k % 256] (by rfl) rfl (by simp) (isB_new shr_word (by omega)) (by rw [HL.out.1]; simp; omega) ?_; intro a7 c7 T7 w7 hown7 hgo7; have HF : Hid (OwnB t T7 w7 (.slice a7 ((pre ++ (four x).take k).length + 1) c7) (pre ++ (four x).take (k + 1)) ∧ Goes (· = t) T w T7 w7) := (by rw [HL.out.2, ← List.append_assoc]; exact ⟨hown7, HI.out.2.trans ((Goes.below ((Below.refl _ _).alloc (Nat.le_refl _) _)).trans hgo7)⟩); clear hown7 hgo7))
      go_roundw
      case rel =>
        have h := HF.out
        simp only [List.length_append, List.length_take] at h
        exact ⟨k + 1, T7, by omega, by go_num, h⟩
      case measure => simp [intOf]; omega
    · have hk4' : k = 4 := by omega
      subst hk4'
      go_wp2
      go_ret
      exact ⟨_, T', rfl, HI.out⟩

theorem take_same {l r : List Nat} {k : Nat} (h : l.take k = r.take k) (hl : k < l.length) (hr : k < r.length) (he : l[k]? = r[k]?) : l.take (k + 1) = r.take (k + 1) := by
  rw [List.take_add_one, List.take_add_one, h, he]
theorem strB_get {s : ByteArray} {k : Nat} (h : k < s.size) : (strB s)[k]? = some (s.data.toList[k]'(by simpa using h)).toNat := by
  unfold strB
  rw [List.getElem?_map, List.getElem?_eq_getElem (by simpa using h)]
  rfl
set_option maxHeartbeats 1000000 in
theorem sharedBytes_any (x y : ByteArray) (w : World) (hx : x.size ≤ 1000000) (hy : y.size ≤ 1000000) :
    Calls Tryd.prog 80 #[.string x, .string y] w fun e w' => e = .returned (.int .i64 ((shr (strB x) (strB y) : Nat) : Int)) ∧ ∃ n, w' = w.drewN n := by
  go_enter Tryd.func80, Tryd.ntmps80
  go_wp2
  have hm : min (x.size : Int) (y.size : Int) = ((min x.size y.size : Nat) : Int) := by omega
  rw [hm]
  have hM : ∃ M, M = min x.size y.size := ⟨_, rfl⟩
  obtain ⟨M, hM⟩ := hM
  rw [← hM]
  have HM : Hid (M = min x.size y.size) := hM
  have hMx : M ≤ x.size := by omega
  have hMy : M ≤ y.size := by omega
  clear hm hM
  go_loopw [13] (fun i wr => ∃ k n : Nat, k ≤ M ∧ i = .int .i64 (k : Int) ∧ Hid ((strB x).take k = (strB y).take k) ∧ wr = w.drewN n) (fun i _ => M - (intOf i).toNat)
  case atStart => exact ⟨0, 0, Nat.zero_le _, rfl, by show _ = _; simp, rfl⟩
  case round =>
    obtain ⟨k, n, hk, rfl, HT, rfl⟩ := hrel
    by_cases hlt : k < M
    · have h1 : k < x.size := by omega
      have h2 : k < y.size := by omega
      have q1 : (k : Int) < (x.size : Int) := by omega
      have q2 : (k : Int) < (y.size : Int) := by omega
      have q3 : (k : Int) < (M : Int) := by omega
      have HX : Hid ((strB x)[k]? = some x[k].toNat) := (strB_get h1)
      have HY : Hid ((strB y)[k]? = some y[k].toNat) := (strB_get h2)
      go_wp2
      go_quiet (fail)
      go_wp2
      · have hne : ((x[k].toNat : Int) != (y[k].toNat : Int)) = true := by assumption
        go_ret
        refine ⟨?_, by simp only [World.drewN_drewN]; exact ⟨_, rfl⟩⟩
        rw [shr_at (strB x) (strB y) k HT.out (by rw [strB_length]; exact h1) (by rw [strB_length]; exact h2) (by
          rw [HX.out, HY.out]
          intro e
          simp only [Option.some.injEq] at e
          rw [e] at hne
          simp at hne)]
        rfl
      · have heq : ((x[k].toNat : Int) != (y[k].toNat : Int)) = false := by assumption
        refine ⟨⟨k + 1, _, by omega, by go_num, ?_, rfl⟩, by simp [intOf]; omega⟩
        refine take_same HT.out (by rw [strB_length]; exact h1) (by rw [strB_length]; exact h2) ?_
        rw [HX.out, HY.out]
        simp at heq
        congr 1
        omega
    · have hkM : k = M := by omega
      subst hkM
      go_wp2
      go_ret
      refine ⟨?_, _, rfl⟩
      rw [shr_end (strB x) (strB y) k (by rw [strB_length, strB_length]; exact HM.out) HT.out]
      rfl

theorem or_one (s : Nat) (hs : s ≤ 72057594037927935) : bits .or .u64 ((s : Int) * 2) 1 = ((2 * s + 1 : Nat) : Int) := by
  have h := bits_or_u64_nat (2 * s) 1 (by omega) (by omega)
  rw [show ((2 * s : Nat) : Int) = (s : Int) * 2 by omega] at h
  have h2 := Nat.two_pow_add_eq_or_of_lt (i := 1) (b := 1) (by omega) s
  rw [Nat.pow_one] at h2
  rw [show (1 : Int) = ((1 : Nat) : Int) by rfl, h]
  congr 1
  omega
theorem tagOf_any (k : ByteArray) (s : Nat) (d : Bool) (v : ByteArray) (w : World) (hs : s ≤ 72057594037927935) :
    Calls Tryd.prog 92 #[.agg #[.string k, .int .u64 (s : Int), .bool d, .string v]] w fun e w' => e = .returned (.int .u64 ((tag (k, (s : Int), d, v) : Nat) : Int)) ∧ Below w.heap.size w w' := by
  cases d
  · have ht : ((tag (k, (s : Int), false, v) : Nat) : Int) = (s : Int) * 2 := by unfold tag; simp; omega
    rw [ht]
    clear ht
    go_enter Tryd.func92, Tryd.ntmps92
    go_wp2
    go_ret
    exact ⟨rfl, (Below.refl _ _).alloc (Nat.le_refl _) _⟩
  · have ht : ((tag (k, (s : Int), true, v) : Nat) : Int) = bits .or .u64 ((s : Int) * 2) 1 := by rw [or_one s hs]; unfold tag; simp
    rw [ht]
    clear ht
    go_enter Tryd.func92, Tryd.ntmps92
    go_wp2
    go_ret
    exact ⟨rfl, (Below.refl _ _).alloc (Nat.le_refl _) _⟩

theorem fault_err (k : ByteArray) (s : Int) (d : Bool) (v : ByteArray) : fault (k, s, d, v) = if Chk.errW k d v ≠ 0 then Chk.errW k d v else if 72057594037927935 < s ∨ (d = true ∧ v.size ≠ 0) then 91 else 0 := by
  unfold fault Chk.errW Chk.err
  dsimp only
  by_cases h0 : k.size = 0
  · simp [h0]
  · by_cases h1 : 64 < k.size
    · simp [h0, h1]
    · cases d
      · by_cases h2 : 512 < v.size
        · simp [h0, h1, h2, Chk.val]
        · simp [h0, h1, h2, Chk.val]
      · have : (Chk.val true v).size = 0 := rfl
        simp [h0, h1, this]
theorem isWr_new {w : World} {k : ByteArray} {d : Bool} {v : ByteArray} {u : TypeId} (hk : k.size ≤ 1000000) (hv : v.size ≤ 1000000) : Chk.IsWr (w.alloc (.cells #[.string k, .bool d, .string v] u)) (some ⟨w.heap.size, 0, none⟩) [(k, d, v)] := by
  refine ⟨fun _ => ⟨w.heap.size, 0, rfl, by simp, fun i x hx => ?_⟩, by simp [maxLen], ?_⟩
  · cases i with
    | zero =>
      simp at hx
      subst hx
      simp
    | succ i => simp at hx
  · intro x hx
    simp at hx
    subst hx
    unfold maxLen
    dsimp only
    omega
theorem errB_one (k : ByteArray) (d : Bool) (v : ByteArray) : Chk.errB [(k, d, v)] = Chk.errW k d v := by
  unfold Chk.errB Chk.errL
  rw [if_neg (by simp)]
  split
  · rename_i h; rw [h]; rfl
  · rfl
theorem check_one (k : ByteArray) (s : Int) (d : Bool) (v : ByteArray) (w : World) (hk : k.size ≤ 1000000) (hv : v.size ≤ 1000000) :
    Calls Tryd.prog 91 #[.slice (some ⟨w.heap.size + 1, 0, none⟩) 1 1] ((w.alloc (.cells #[.string k, .int .u64 s, .bool d, .string v] 43)).alloc (.cells #[.string k, .bool d, .string v] 145)) fun e w' => e = .returned (.int .i64 (Chk.errW k d v)) ∧ Below w.heap.size w w' ∧
      w'.cell? ⟨w.heap.size, 1, none⟩ = some (.int .u64 s) ∧ w'.cell? ⟨w.heap.size, 2, none⟩ = some (.bool d) ∧ w'.cell? ⟨w.heap.size, 3, none⟩ = some (.string v) := by
  have h1 := isWr_new (w := w.alloc (.cells #[.string k, .int .u64 s, .bool d, .string v] 43)) (d := d) (u := 145) hk hv
  have e1 : (w.alloc (.cells #[.string k, .int .u64 s, .bool d, .string v] 43)).heap.size = w.heap.size + 1 := by simp
  rw [e1] at h1
  refine (Bat.checkBatch_any (some ⟨w.heap.size + 1, 0, none⟩) 1 [(k, d, v)] _ h1).mono ?_
  rintro e w' ⟨rfl, hb⟩
  have hbb : Below w.heap.size w w' := ((((Below.refl _ _).alloc (Nat.le_refl _) _).alloc (by simp) _).trans (hb.mono (by simp; omega)))
  refine ⟨by rw [errB_one], hbb, ?_, ?_, ?_⟩
  · rw [hb.cell (p := ⟨w.heap.size, 1, none⟩) (by simp; omega)]; simp
  · rw [hb.cell (p := ⟨w.heap.size, 2, none⟩) (by simp; omega)]; simp
  · rw [hb.cell (p := ⟨w.heap.size, 3, none⟩) (by simp; omega)]; simp
set_option maxHeartbeats 1000000 in
theorem checkEntry_any (k : ByteArray) (s : Int) (d : Bool) (v : ByteArray) (w : World) (hk : k.size ≤ 1000000) (hv : v.size ≤ 1000000) :
    Calls Tryd.prog 79 #[.agg #[.string k, .int .u64 s, .bool d, .string v]] w fun e w' => e = .returned (.int .i64 (fault (k, s, d, v))) ∧ Below w.heap.size w w' := by
  rw [fault_err]
  by_cases he : Chk.errW k d v = 0
  · have g0 : (Chk.errW k d v != 0) = false := by simp [he]
    rw [if_neg (by simpa using he)]
    clear he
    by_cases hq : 72057594037927935 < s
    · rw [if_pos (.inl hq)]
      go_enter Tryd.func79, Tryd.ntmps79
      go_wp2_with (go_at_call 91; refine (check_one k s d v w hk hv).mono ?_; rintro e w1 ⟨rfl, hb1, k1, k2, k3⟩; have HB : Hid (Below w.heap.size w w1) := hb1; clear hb1)
      go_ret
      exact ⟨rfl, HB.out⟩
    · cases d with
      | false =>
        rw [if_neg (by simp [hq])]
        go_enter Tryd.func79, Tryd.ntmps79
        go_wp2_with (go_at_call 91; refine (check_one k s false v w hk hv).mono ?_; rintro e w1 ⟨rfl, hb1, k1, k2, k3⟩; have HB : Hid (Below w.heap.size w w1) := hb1; clear hb1)
        go_ret
        exact ⟨rfl, HB.out⟩
      | true =>
        by_cases hv0 : v.size = 0
        · rw [if_neg (by simp [hq, hv0])]
          have hv1 := size0 hv0
          subst hv1
          go_enter Tryd.func79, Tryd.ntmps79
          go_wp2_with (go_at_call 91; refine (check_one k s true _ w hk hv).mono ?_; rintro e w1 ⟨rfl, hb1, k1, k2, k3⟩; have HB : Hid (Below w.heap.size w w1) := hb1; clear hb1)
          go_ret
          exact ⟨rfl, HB.out⟩
        · rw [if_pos (.inr ⟨rfl, hv0⟩)]
          have hne : (!v.toList.isEmpty) = true := by
            rw [Lib.toList_data]
            have hlen : v.data.toList.length = v.size := by simp
            cases hd : v.data.toList with
            | nil => rw [hd] at hlen; simp at hlen; omega
            | cons _ _ => rfl
          go_enter Tryd.func79, Tryd.ntmps79
          go_wp2_with (go_at_call 91; refine (check_one k s true v w hk hv).mono ?_; rintro e w1 ⟨rfl, hb1, k1, k2, k3⟩; have HB : Hid (Below w.heap.size w w1) := hb1; clear hb1)
          go_ret
          exact ⟨rfl, HB.out⟩
  · have g0 : (Chk.errW k d v != 0) = true := by simp [he]
    rw [if_pos he]
    clear he
    go_enter Tryd.func79, Tryd.ntmps79
    go_wp2_with (go_at_call 91; refine (check_one k s d v w hk hv).mono ?_; rintro e w1 ⟨rfl, hb1, k1, k2, k3⟩; have HB : Hid (Below w.heap.size w w1) := hb1; clear hb1)
    go_ret
    exact ⟨rfl, HB.out⟩

theorem strB_append (x y : ByteArray) : strB (x ++ y) = strB x ++ strB y := by
  unfold strB
  simp [ByteArray.data_append]
theorem strB_extract (x : ByteArray) (s : Nat) (h : s ≤ x.size) : strB (x.extract 0 s) = (strB x).take s := by
  unfold strB
  simp [ByteArray.data_extract, List.map_take]
theorem key_join (ah : ByteArray) (s : Nat) (x : List Nat) (hx : ∀ y ∈ x, y < 256) (hs : s ≤ ah.size) : ah.extract 0 s ++ ofB x = ofB ((strB ah).take s ++ x) := by
  apply strB_inj
  rw [strB_append, strB_extract ah s hs, strB_ofB hx, strB_ofB]
  exact byte_app (fun y hy => strB_byte ah y (List.mem_of_mem_take hy)) hx
theorem conv_nil (w : World) : (convert 25 9 (.slice none 0 0)).run Tryd.prog w = .ok (.string ⟨#[]⟩) w := by
  simp [convert, run_underlying Tryd.underlying25, run_underlying Tryd.underlying9, run_underlying Tryd.underlying5, Conv.bytesToString, loadCells, loadCellsFrom]
  try rfl
set_option maxHeartbeats 1000000 in
theorem readKey_any (a : Option Addr) (cap n : Nat) (l : List Nat) (ah : ByteArray) (s m : Nat) (w : World) (ha : IsB w a l) (hcap : l.length ≤ cap) (hc0 : a = none → cap = 0) (hlen : cap ≤ 9223372036854775807) (hn : n = l.length) (hah : ah.size ≤ 64) (hs : s < 18446744073709551616) (hm : m < 18446744073709551616) :
    Calls Tryd.prog 88 #[.slice a n cap, .string ah, .int .u64 (s : Int), .int .u64 (m : Int)] w fun e w' => (e = .returned (if ah.size < s ∨ 64 < s + m ∨ l.length < m then .tuple #[.string ⟨#[]⟩, .bool false] else .tuple #[.string (ofB ((strB ah).take s ++ l.take m)), .bool true])) ∧ ∃ n, w' = w.drewN n := by
  subst hn
  by_cases h1 : ah.size < s
  · rw [if_pos (.inl h1)]
    go_enter Tryd.func88, Tryd.ntmps88
    go_wp2
    go_ret2
    exact ⟨rfl, 0, rfl⟩
  · by_cases h2 : 64 < s + m
    · rw [if_pos (.inr (.inl h2))]
      go_enter Tryd.func88, Tryd.ntmps88
      go_wp2
      go_ret2
      exact ⟨rfl, 0, rfl⟩
    · by_cases h3 : l.length < m
      · rw [if_pos (.inr (.inr h3))]
        go_enter Tryd.func88, Tryd.ntmps88
        go_wp2
        go_ret2
        exact ⟨rfl, 0, rfl⟩
      · rw [if_neg (by omega)]
        have q1 : ¬ ((64 : Int) - (s : Int) < (m : Int)) := by omega
        have q2 : (s : Int) ≤ (ah.size : Int) := by omega
        have q3 : (m : Int) ≤ (l.length : Int) := by omega
        have q4 : (m : Int) ≤ (cap : Int) := by omega
        have HE : Hid (∀ x : List Nat, (∀ y ∈ x, y < 256) → ah.extract 0 s ++ ofB x = ofB ((strB ah).take s ++ x)) := fun x hx => key_join ah s x hx (by omega)
        have HB : Hid (∀ x ∈ l, x < 256) := ha.2
        cases a with
        | none =>
          have hl0 := ha.none
          subst hl0
          obtain rfl := hc0 rfl
          obtain rfl : m = 0 := by simp at h3; omega
          have hcv : ∀ q, (convert 25 9 (.slice none 0 0)).run Tryd.prog (w.drewN q) = .ok (.string ⟨#[]⟩) (w.drewN q) := fun q => conv_nil _
          go_enter Tryd.func88, Tryd.ntmps88
          go_wp2
          go_quiet (fail)
          go_wp2
          go_ret2
          refine ⟨?_, _, rfl⟩
          have := HE.out [] (by simp)
          rw [List.take_nil, ← this]
          rfl
        | some ad =>
          have hlm : m = (l.take m).length := by rw [List.length_take]; omega
          have hcv : ∀ q, (convert 25 9 (.slice (some ad) m m)).run Tryd.prog (w.drewN q) = .ok (.string (ofB (l.take m))) (w.drewN q) := fun q => conv_back (w.drewN q) ad m m (l.take m) ((ha.below (below_drewN (Below.refl _ _) q)).take m) hlm
          have hsz : (ofB (l.take m)).size = m := by rw [← strB_length, strB_ofB (fun y hy => HB.out y (List.mem_of_mem_take hy))]; exact hlm.symm
          have hex : (ah.extract 0 s).size = s := by rw [← strB_length, strB_extract ah s (by omega), List.length_take, strB_length]; omega
          have had : ¬ 9223372036854775807 < (ah.extract 0 s).size + (ofB (l.take m)).size := by rw [hsz, hex]; omega
          have had2 : ¬ 9223372036854775807 < min s ah.size + (ofB (l.take m)).size := by rw [hsz]; omega
          clear ha hlm hsz hex
          go_enter Tryd.func88, Tryd.ntmps88
          go_wp2
          go_quiet (fail)
          go_wp2
          go_ret2
          refine ⟨?_, _, rfl⟩
          rw [← HE.out (l.take m) (fun y hy => HB.out y (List.mem_of_mem_take hy))]
          rfl

end Qb
end Go.Proofs.YtnhhalabmmcemaaDoor
