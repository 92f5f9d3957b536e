import Derived.Test.YtcioaoanhmpdkaaRg4
import Derived.Test.YtcioaoanhmpdkaaMm3
namespace Go.Proofs.Ytcioaoanhmpdkaa
namespace Mem
open Go.RowKit Laws Irw Erw KMath Skm Byt Sk Grp Crw Chk
set_option linter.unusedVariables false
set_option maxRecDepth 100000
set_option linter.unusedSimpArgs false
set_option maxHeartbeats 1000000 in
/-- the reference's Check -/
theorem refCheck6 (a : Option Addr) (cap n : Nat) (ws : List Wr) (w : World) (h : IsWr w a ws) (hn : ws.length = n) :
    Calls Try.prog 92 #[.slice a n cap] w fun e w' => e = .returned (.int .i64 (errB ws)) ∧ Below w.heap.size w w' := by
  subst hn
  obtain ⟨hrow, hlen, hstr⟩ := h
  unfold maxLen at hlen
  have HROW : Hid (ws ≠ [] → ∃ b off, a = some ⟨b, off, none⟩ ∧ WrRow w b off ws) := hrow
  have HSTR : Hid (∀ x ∈ ws, x.1.size ≤ maxLen ∧ x.2.2.size ≤ maxLen) := hstr
  clear hrow hstr
  by_cases h16 : 16 < ws.length
  · have hr : errB ws = 13 := by simp [errB, h16]
    rw [hr]; clear hr
    go_enter Try.func92, Try.ntmps92
    go_wp2
    go_ret
    exact ⟨rfl, Below.refl _ _⟩
  · have hr : errB ws = errL ws := by simp [errB, h16]
    rw [hr]; clear hr
    go_enter Try.func92, Try.ntmps92
    go_wp2
    go_loopw [3] (fun i wr => ∃ k : Nat, k ≤ ws.length ∧ i = .int .i64 k ∧ errL (ws.drop k) = errL ws ∧ Below w.heap.size w wr) (fun i _ => ws.length - (intOf i).toNat)
    case atStart => exact ⟨0, Nat.zero_le _, rfl, rfl, Below.refl _ _⟩
    case round =>
      obtain ⟨k, hk, rfl, hel, hbe⟩ := hrel
      have HEL : Hid (errL (ws.drop k) = errL ws) := hel
      clear hel
      by_cases hlt : k < ws.length
      · obtain ⟨b, off, rfl, hr⟩ := HROW.out (by intro e; rw [e] at hlt; simp at hlt)
        obtain ⟨kk, dd, vv, hx⟩ : ∃ kk dd vv, ws[k]? = some (kk, dd, vv) := ⟨_, _, _, List.getElem?_eq_getElem hlt⟩
        obtain ⟨c0, c1, c2⟩ := (hr.below hbe hr.1).2 k _ hx
        obtain ⟨s1, s2⟩ := HSTR.out _ (List.mem_of_getElem? hx)
        have HX : Hid (ws[k]? = some (kk, dd, vv)) := hx
        clear hx
        dsimp only at c0 c1 c2 s1 s2
        unfold maxLen at s1 s2
        rename World => wr
        have HB1 : Hid (Below w.heap.size w (wr.alloc (.cells #[.string kk, .bool dd, .string vv] 73))) := hbe.alloc hbe.size _
        have hw : errW kk dd vv = if kk.size = 0 then 10 else if 64 < kk.size then 11 else if 512 < (val dd vv).size then 12 else 0 := by
          unfold errW err
          split <;> split <;> simp_all
        by_cases e1 : kk.size = 0
        · have HD : Hid (errL (ws.drop k) = 10) := by
            show errL (ws.drop k) = 10
            have : errW kk dd vv = 10 := by rw [hw, if_pos e1]
            rw [errL_no HX.out (by rw [this]; decide), this]
          clear hw
          have q1 : ((kk.size : Int) == 0) = true := by simp [e1]
          have q2 : (kk.size : Int) = 0 := by omega
          go_wp2
          go_ret
          exact ⟨Ent.ret_int (by rw [← HEL.out, HD.out]), HB1.out⟩
        · by_cases e2 : 64 < kk.size
          · have HD : Hid (errL (ws.drop k) = 11) := by
              show errL (ws.drop k) = 11
              have : errW kk dd vv = 11 := by rw [hw, if_neg e1, if_pos e2]
              rw [errL_no HX.out (by rw [this]; decide), this]
            clear hw
            have q1 : ((kk.size : Int) == 0) = false := by rw [beq_eq_false_iff_ne]; omega
            have q2 : ¬ (kk.size : Int) = 0 := by omega
            have q3 : (64 : Int) < (kk.size : Int) := by omega
            go_wp2
            go_ret
            exact ⟨Ent.ret_int (by rw [← HEL.out, HD.out]), HB1.out⟩
          · have q1 : ((kk.size : Int) == 0) = false := by rw [beq_eq_false_iff_ne]; omega
            have q2 : ¬ (kk.size : Int) = 0 := by omega
            have q3 : (kk.size : Int) ≤ 64 := by omega
            cases dd with
            | true =>
              have HD : Hid (errL (ws.drop k) = errL (ws.drop (k + 1))) := errL_ok HX.out (by rw [hw, if_neg e1, if_neg e2]; rfl)
              clear hw
              go_wp2
              go_roundw
              case rel => exact ⟨k + 1, by omega, by go_num, by rw [← HD.out, HEL.out], HB1.out⟩
              case measure => simp [intOf]; omega
            | false =>
              by_cases e3 : 512 < vv.size
              · have HD : Hid (errL (ws.drop k) = 12) := by
                  show errL (ws.drop k) = 12
                  have : errW kk false vv = 12 := by rw [hw, if_neg e1, if_neg e2, val_false, if_pos e3]
                  rw [errL_no HX.out (by rw [this]; decide), this]
                clear hw
                have q4 : (512 : Int) < (vv.size : Int) := by omega
                go_wp2
                go_ret
                exact ⟨Ent.ret_int (by rw [← HEL.out, HD.out]), HB1.out⟩
              · have HD : Hid (errL (ws.drop k) = errL (ws.drop (k + 1))) := errL_ok HX.out (by rw [hw, if_neg e1, if_neg e2, val_false, if_neg e3])
                clear hw
                have q4 : (vv.size : Int) ≤ 512 := by omega
                go_wp2
                go_roundw
                case rel => exact ⟨k + 1, by omega, by go_num, by rw [← HD.out, HEL.out], HB1.out⟩
                case measure => simp [intOf]; omega
      · go_wp2
        go_ret
        refine ⟨Ent.ret_int ?_, hbe⟩
        rw [← HEL.out, List.drop_of_length_le (by omega)]
        rfl
set_option maxHeartbeats 400000 in
/-- the reference's Weight of an entry -/
theorem refWeight6 (e : En) (w : World) (h : okE e) :
    Calls Try.prog 82 #[.agg #[.string e.1, .int .u64 e.2.1, .bool e.2.2.1, .string e.2.2.2]] w fun r w' => r = .returned (.int .i64 (wN e : Int)) ∧ Below w.heap.size w w' := by
  obtain ⟨k, s, d, v⟩ := e
  obtain ⟨h1, h2, h3, h4, h5⟩ := h
  dsimp only at h1 h2 h3 h4 h5 ⊢
  have HB1 : Hid (Below w.heap.size w (w.alloc (.cells #[.string k, .int .u64 s, .bool d, .string v] 77))) := (Below.refl _ _).alloc (Nat.le_refl _) _
  have q0 : (k.size : Int) ≤ 64 := by omega
  cases d with
  | true =>
    have HW : Hid ((wN (k, s, true, v) : Int) = 2 * (k.size : Int) + 448) := by
      have : (Chk.val true v).size = 0 := rfl
      show ((wN (k, s, true, v) : Nat) : Int) = _
      unfold wN; dsimp only; rw [this]; omega
    clear h3
    go_enter Try.func82, Try.ntmps82
    go_wp2
    go_ret
    exact ⟨by rw [HW.out]; go_num, HB1.out⟩
  | false =>
    have HW : Hid ((wN (k, s, false, v) : Int) = 2 * (k.size : Int) + 448 + (v.size : Int)) := by
      have : (Chk.val false v).size = v.size := rfl
      show ((wN (k, s, false, v) : Nat) : Int) = _
      unfold wN; dsimp only; rw [this]; omega
    have q1 : (v.size : Int) ≤ 512 := by rw [val_false] at h3; omega
    clear h3
    go_enter Try.func82, Try.ntmps82
    go_wp2
    go_ret
    exact ⟨by rw [HW.out]; go_num, HB1.out⟩
set_option maxHeartbeats 400000 in
/-- the reference's Entry -/
theorem refEntry6 (s : Int) (k : ByteArray) (d : Bool) (v : ByteArray) (w : World) :
    Calls Try.prog 94 #[.int .u64 s, .agg #[.string k, .bool d, .string v]] w fun r w' => r = .returned (.agg #[.string k, .int .u64 s, .bool d, .string (val d v)]) ∧ Below w.heap.size w w' := by
  cases d with
  | true =>
    rw [val_true]
    go_enter Try.func94, Try.ntmps94
    have HB : Hid (Below w.heap.size w ((w.alloc (.cells #[.string k, .bool true, .string v] 73)).alloc (.cells #[.string k, .int .u64 s, .bool true, .string ⟨#[]⟩] 77))) := ((Below.refl _ _).alloc (Nat.le_refl _) _).alloc (by simp) _
    have hz : ∀ j, ((w.alloc (.cells #[.string k, .bool true, .string v] 73)).alloc (.cells #[.string k, .int .u64 s, .bool true, .string ⟨#[]⟩] 77)).cell? ⟨w.heap.size + 1, j, none⟩ = (#[.string k, .int .u64 s, .bool true, .string ⟨#[]⟩] : Array Value)[j]? := fun j => World.cell?_alloc_at _ _ _ _ (by simp)
    have z0 := hz 0
    have z1 := hz 1
    have z2 := hz 2
    have z3 := hz 3
    clear hz
    go_wp2
    generalize (w.alloc (.cells #[.string k, .bool true, .string v] 73)).alloc (.cells #[.string k, .int .u64 s, .bool true, .string ⟨#[]⟩] 77) = W4 at *
    refine ⟨rfl, .agg #[.string k, .int .u64 s, .bool true, .string ⟨#[]⟩], ?_, rfl, HB.out⟩
    simp [results, Try.results94, go_sem, z0, z1, z2, z3]
  | false =>
    rw [val_false]
    go_enter Try.func94, Try.ntmps94
    have HB : Hid (Below w.heap.size w ((w.alloc (.cells #[.string k, .bool false, .string v] 73)).alloc (.cells #[.string k, .int .u64 s, .bool false, .string v] 77))) := ((Below.refl _ _).alloc (Nat.le_refl _) _).alloc (by simp) _
    have hz : ∀ j, ((w.alloc (.cells #[.string k, .bool false, .string v] 73)).alloc (.cells #[.string k, .int .u64 s, .bool false, .string v] 77)).cell? ⟨w.heap.size + 1, j, none⟩ = (#[.string k, .int .u64 s, .bool false, .string v] : Array Value)[j]? := fun j => World.cell?_alloc_at _ _ _ _ (by simp)
    have z0 := hz 0
    have z1 := hz 1
    have z2 := hz 2
    have z3 := hz 3
    clear hz
    go_wp2
    generalize (w.alloc (.cells #[.string k, .bool false, .string v] 73)).alloc (.cells #[.string k, .int .u64 s, .bool false, .string v] 77) = W4 at *
    refine ⟨rfl, .agg #[.string k, .int .u64 s, .bool false, .string v], ?_, rfl, HB.out⟩
    simp [results, Try.results94, go_sem, z0, z1, z2, z3]
end Mem
end Go.Proofs.Ytcioaoanhmpdkaa
namespace Go.Proofs.Ytcioaoanhmpdkaa
namespace Mem
open Go.RowKit Laws Irw Erw KMath Skm Byt Sk Grp Crw Chk
set_option linter.unusedVariables false
set_option maxRecDepth 100000
set_option linter.unusedSimpArgs false
/-- the document's memtable, as it lies -/
structure Rt (w : World) (Q R : Nat) (es : List En) (hs : List Int) (bs : List Nat) (fz : Bool) : Prop where
  rl : Rl w R [] es hs bs
  lt : Q < w.heap.size
  ne : Q ≠ R ∧ Q ∉ bs
  c0 : w.cell? ⟨Q, 0, none⟩ = some (.pointer (some ⟨R, 0, none⟩))
  c1 : w.cell? ⟨Q, 1, none⟩ = some (.bool fz)
  fr : ∀ j, w.frozen? ⟨Q, j, none⟩ = false
  ok : ∀ e ∈ es, okE e
theorem Rt.keep {w w' : World} {Q R : Nat} {es : List En} {hs : List Int} {bs cs : List Nat} {fz : Bool} (h : Rt w Q R es hs bs fz) (hk : Keep cs w w') (hQ : Q ∉ cs) (hR : R ∉ cs) (hb : ∀ b ∈ bs, b ∉ cs) : Rt w' Q R es hs bs fz :=
  ⟨h.rl.keep hk hR hb, Nat.lt_of_lt_of_le h.lt hk.size, h.ne, (hk.cell (p := ⟨Q, 0, none⟩) h.lt hQ).trans h.c0, (hk.cell (p := ⟨Q, 1, none⟩) h.lt hQ).trans h.c1, fun j => (World.frozen?_of_block (a := ⟨Q, j, none⟩) (hk.block Q h.lt hQ)).trans (h.fr j), h.ok⟩
theorem Rt.below {w w' : World} {Q R : Nat} {es : List En} {hs : List Int} {bs : List Nat} {fz : Bool} (h : Rt w Q R es hs bs fz) (hb : Below w.heap.size w w') : Rt w' Q R es hs bs fz := h.keep (cs := []) (Keep.below hb) (by simp) (by simp) (by simp)
theorem plc_zero {es : List En} (h : ∀ e ∈ es, okE e) : plc ⟨#[]⟩ 18446744073709551615 es = 0 := by
  unfold plc
  cases es with
  | nil => rfl
  | cons x r =>
    have hx := h x (by simp)
    have : ahB x (atE ⟨#[]⟩ 18446744073709551615) = false := by
      unfold ahB atE
      rw [decide_eq_false_iff_not, cmpE_lt_iff]
      rintro (h2 | h2)
      · have : (⟨#[]⟩ : ByteArray).toList = [] := by rw [ByteArray.toList_eq]
        dsimp only at h2
        rw [this] at h2
        cases hl : x.1.toList <;> rw [hl] at h2 <;> simp [Op.bytesLess] at h2
      · have h5 := hx.2.2.2.2
        have h6 := h2.2
        dsimp only at h6
        omega
    rw [List.takeWhile_cons, this]
    rfl
set_option maxHeartbeats 400000 in
/-- the reference's All -/
theorem refAll6 {w : World} {Q R n : Nat} {es : List En} {hs : List Int} {bs : List Nat} {fz : Bool} (h : Rt w Q R es hs bs fz) (hl : es.length ≤ 2932031007402) (hn : es.length = n) :
    Calls Try.prog 48 #[.pointer (some ⟨Q, 0, none⟩)] w fun r w' => ∃ a c, r = .returned (.slice a n c) ∧ FromIs w w' a c n es := by
  have HF : Hid (Calls Try.prog 81 #[.pointer (some ⟨R, 0, none⟩), .string ⟨#[]⟩, .int .u64 18446744073709551615] w fun e w' => ∃ a c, e = .returned (.slice a n c) ∧ FromIs w w' a c n es) := by
    have := refFrom_any w R [] es hs bs h.rl hl ⟨#[]⟩ 18446744073709551615
    rw [plc_zero h.ok, Nat.sub_zero, List.drop_zero, hn] at this
    exact this
  have c0 := h.c0
  clear h hl hn
  go_enter Try.func48, Try.ntmps48
  go_wp2_with (go_at_call 81; refine HF.out.mono ?_; rintro e w' ⟨a, c, rfl, hf⟩; have HA : Hid (FromIs w w' a c n es) := hf; clear hf)
  go_ret
  exact ⟨_, _, rfl, HA.out⟩
def sumW (es : List En) : Nat := (es.map wN).sum
theorem sumW_le {es : List En} (h : ∀ e ∈ es, okE e) : sumW es ≤ 1088 * es.length := by
  induction es with
  | nil => simp [sumW]
  | cons x r ih =>
    have h1 := ih (fun e he => h e (by simp [he]))
    obtain ⟨_, h3, h4, _⟩ := h x (by simp)
    have : wN x ≤ 1088 := by unfold wN; omega
    unfold sumW at h1 ⊢
    simp only [List.map_cons, List.sum_cons, List.length_cons]
    omega
theorem sumW_take {es : List En} {k : Nat} (h : k < es.length) : sumW (es.take (k + 1)) = sumW (es.take k) + wN (es.getD k ez) := by
  unfold sumW
  rw [List.take_add_one, List.map_append, List.sum_append, List.getElem?_eq_getElem h]
  simp [List.getD_eq_getElem?_getD, List.getElem?_eq_getElem h]
set_option maxHeartbeats 1000000 in
/-- the reference's Weight of a memtable -/
theorem refWeightT6 {w : World} {Q R n : Nat} {es : List En} {hs : List Int} {bs : List Nat} {fz : Bool} (h : Rt w Q R es hs bs fz) (hl : es.length ≤ 1000000000) (hn : es.length = n) :
    Calls Try.prog 49 #[.pointer (some ⟨Q, 0, none⟩)] w fun r w' => r = .returned (.int .i64 (sumW es : Int)) ∧ Below w.heap.size w w' := by
  have HA : Hid _ := refAll6 h (by omega) hn
  have HOK : Hid (∀ e ∈ es, okE e) := h.ok
  have hn9 : n ≤ 1000000000 := by omega
  have HN : Hid (es.length = n) := hn
  clear h hl hn
  go_enter Try.func49, Try.ntmps49
  go_wp2_with fail
  refine Calls.mono HA.out ?_
  rintro e w1 ⟨a, c, rfl, hi, hc, hnil, hb1⟩
  have HI : Hid (IsE w1 a es) := hi
  have HB1 : Hid (Below w.heap.size w w1) := hb1
  clear hi hc hnil hb1
  go_wp2
  go_loopw [3, 5] (fun s i wr => ∃ k : Nat, k ≤ n ∧ s = .int .i64 (sumW (es.take k) : Int) ∧ i = .int .i64 (k : Int) ∧ Hid (Below w1.heap.size w1 wr)) (fun _ i _ => n - (intOf i).toNat)
  case atStart => exact ⟨0, Nat.zero_le _, by simp [sumW], rfl, Below.refl _ _⟩
  case round =>
    obtain ⟨k, hk, rfl, rfl, HBR⟩ := hrel
    rename World => wr
    by_cases hlt : k < n
    · have hkl : k < es.length := by rw [HN.out]; exact hlt
      obtain ⟨bA, oA, rfl, hbA, y0, y1, y2, y3⟩ := SkipOrder.rd (HI.out.below HBR.out) hkl
      have hok := HOK.out (es.getD k ez) (by rw [List.getD_eq_getElem?_getD, List.getElem?_eq_getElem hkl]; exact List.getElem_mem hkl)
      have HWK : Hid (∀ W, Calls Try.prog 82 #[.agg #[.string (es.getD k ez).1, .int .u64 (es.getD k ez).2.1, .bool (es.getD k ez).2.2.1, .string (es.getD k ez).2.2.2]] W fun r w' => r = .returned (.int .i64 (wN (es.getD k ez) : Int)) ∧ Below W.heap.size W w') := fun W => refWeight6 _ W hok
      have HSS : Hid ((sumW (es.take (k + 1)) : Int) = (sumW (es.take k) : Int) + (wN (es.getD k ez) : Int)) := by
        show ((sumW (es.take (k + 1)) : Nat) : Int) = _
        rw [sumW_take hkl]; omega
      have p1 : sumW (es.take (k + 1)) ≤ 1088 * 1000000000 := by
        have := sumW_le (es := es.take (k + 1)) (fun e he => HOK.out e (List.mem_of_mem_take he))
        have : (es.take (k + 1)).length ≤ 1000000000 := by rw [List.length_take, HN.out]; omega
        omega
      have q1 : (k : Int) < (n : Int) := by omega
      have q2 : (n : Int) ≤ 1000000000 := by omega
      obtain ⟨S1, hS1⟩ : ∃ S1, sumW (es.take k) = S1 := ⟨_, rfl⟩
      obtain ⟨S2, hS2⟩ : ∃ S2, wN (es.getD k ez) = S2 := ⟨_, rfl⟩
      have q3 : (S1 : Int) + (S2 : Int) ≤ 1088000000000 := by have := HSS.out; rw [hS1, hS2] at this; omega
      have HS2 : Hid ((sumW (es.take (k + 1)) : Int) = (S1 : Int) + (S2 : Int)) := by rw [← hS1, ← hS2]; exact HSS.out
      rw [hS1]
      rw [hS2] at HWK
      clear hok HSS p1 hkl hS1 hS2
      generalize es.getD k ez = x at *
      obtain ⟨xk, xs, xd, xv⟩ := x
      dsimp only at y0 y1 y2 y3 HWK
      have q4 : (0 : Int) ≤ (S1 : Int) := by omega
      have q5 : (0 : Int) ≤ (S2 : Int) := by omega
      go_wp2_with (go_at_call 82; refine (HWK.out _).mono ?_; rintro e w2 ⟨rfl, hb2⟩; have HB2 : Hid (Below w1.heap.size w1 w2) := HBR.out.trans (hb2.mono HBR.out.size); clear hb2)
      go_roundw
      case rel => exact ⟨k + 1, by omega, by rw [HS2.out], by go_num, HB2⟩
      case measure => simp [intOf]; omega
    · obtain rfl : k = n := by omega
      have HT : Hid (es.take k = es) := by show es.take k = es; rw [← HN.out]; exact List.take_length
      rw [HT.out]
      go_wp2
      go_ret
      exact ⟨rfl, HB1.out.trans (HBR.out.mono HB1.out.size)⟩
def lastE : List En → Int
  | [] => 0
  | x :: r => max x.2.1 (lastE r)
theorem lastE_pos (a : List En) : 0 ≤ lastE a := by
  induction a with
  | nil => exact Int.le_refl _
  | cons x r ih => unfold lastE; omega
theorem lastE_snoc (a : List En) (x : En) : lastE (a ++ [x]) = max (lastE a) (max x.2.1 0) := by
  induction a with
  | nil => simp only [List.nil_append, lastE]; omega
  | cons y r ih => simp only [List.cons_append, lastE, ih]; omega
theorem lastE_take {es : List En} {k : Nat} (h : k < es.length) (h0 : 0 ≤ (es.getD k ez).2.1) : lastE (es.take (k + 1)) = max (lastE (es.take k)) (es.getD k ez).2.1 := by
  have : es.take (k + 1) = es.take k ++ [es.getD k ez] := by
    rw [List.take_add_one, List.getElem?_eq_getElem h, List.getD_eq_getElem?_getD, List.getElem?_eq_getElem h]
    rfl
  rw [this, lastE_snoc]
  omega
set_option maxHeartbeats 1000000 in
/-- the reference's Last -/
theorem refLast6 {w : World} {Q R n : Nat} {es : List En} {hs : List Int} {bs : List Nat} {fz : Bool} (h : Rt w Q R es hs bs fz) (hl : es.length ≤ 1000000000) (hn : es.length = n) :
    Calls Try.prog 50 #[.pointer (some ⟨Q, 0, none⟩)] w fun r w' => r = .returned (.int .u64 (lastE es)) ∧ Below w.heap.size w w' := by
  have HA : Hid _ := refAll6 h (by omega) hn
  have HOK : Hid (∀ e ∈ es, okE e) := h.ok
  have hn9 : n ≤ 1000000000 := by omega
  have HN : Hid (es.length = n) := hn
  clear h hl hn
  go_enter Try.func50, Try.ntmps50
  go_wp2_with fail
  refine Calls.mono HA.out ?_
  rintro e w1 ⟨a, c, rfl, hi, hc, hnil, hb1⟩
  have HI : Hid (IsE w1 a es) := hi
  have HB1 : Hid (Below w.heap.size w w1) := hb1
  clear hi hc hnil hb1
  go_wp2
  go_loopw [3, 5] (fun s i wr => ∃ k : Nat, k ≤ n ∧ s = .int .u64 (lastE (es.take k)) ∧ i = .int .i64 (k : Int) ∧ wr = w1) (fun _ i _ => n - (intOf i).toNat)
  case atStart => exact ⟨0, Nat.zero_le _, by simp [lastE], rfl, rfl⟩
  case round =>
    obtain ⟨k, hk, rfl, rfl, hwr⟩ := hrel
    subst hwr
    rename World => wr
    by_cases hlt : k < n
    · have hkl : k < es.length := by rw [HN.out]; exact hlt
      obtain ⟨bA, oA, rfl, hbA, y0, y1, y2, y3⟩ := SkipOrder.rd HI.out hkl
      have hok := HOK.out (es.getD k ez) (by rw [List.getD_eq_getElem?_getD, List.getElem?_eq_getElem hkl]; exact List.getElem_mem hkl)
      have HSS := lastE_take hkl hok.2.2.2.1
      obtain ⟨S1, hS1⟩ : ∃ S1, lastE (es.take k) = S1 := ⟨_, rfl⟩
      obtain ⟨S2, hS2⟩ : ∃ S2, (es.getD k ez).2.1 = S2 := ⟨_, rfl⟩
      rw [hS1, hS2] at HSS
      have HS2 : Hid (lastE (es.take (k + 1)) = max S1 S2) := HSS
      rw [hS1]
      rw [hS2] at y1
      have q1 : (k : Int) < (n : Int) := by omega
      have q2 : (n : Int) ≤ 1000000000 := by omega
      clear hok HSS hkl hS1 hS2
      by_cases hc : S1 < S2
      · go_wp2
        go_roundw
        case rel => exact ⟨k + 1, by omega, by rw [HS2.out, Int.max_eq_right (by omega)], by go_num, trivial⟩
        case measure => simp [intOf]; omega
      · have hc2 : S2 ≤ S1 := by omega
        go_wp2
        go_roundw
        case rel => exact ⟨k + 1, by omega, by rw [HS2.out, Int.max_eq_left hc2], by go_num, trivial⟩
        case measure => simp [intOf]; omega
    · obtain rfl : k = n := by omega
      have HT : Hid (es.take k = es) := by show es.take k = es; rw [← HN.out]; exact List.take_length
      rw [HT.out]
      go_wp2
      go_ret
      exact ⟨rfl, HB1.out⟩
set_option maxHeartbeats 400000 in
/-- the reference's Freeze -/
theorem refFreeze6 {w : World} {Q R : Nat} {es : List En} {hs : List Int} {bs : List Nat} {fz : Bool} (h : Rt w Q R es hs bs fz) :
    Calls Try.prog 51 #[.pointer (some ⟨Q, 0, none⟩)] w fun r w' => (∃ v, r = .returned v) ∧ Rt w' Q R es hs bs true ∧ Keep [Q] w w' := by
  have HM : Hid (Rt w Q R es hs bs fz) := h
  have c1 := h.c1
  have f1 := h.fr 1
  clear h
  go_enter Try.func51, Try.ntmps51
  go_wp2
  refine bodyPost_end (results_none Try.results51 _ _ _) rfl ⟨⟨_, rfl⟩, ?_⟩
  have h := HM.out
  have hk : Keep [Q] w (w.setCell ⟨Q, 1, none⟩ (.bool true)) := ⟨rfl, rfl, rfl, by simp, fun b _ hb => Below.heap_setCell _ _ _ _ (by simpa using hb)⟩
  refine ⟨⟨h.rl.keep hk (by simp; exact fun e => h.ne.1 e.symm) (fun b hb => by simp; rintro rfl; exact h.ne.2 hb), by have := h.lt; simpa using this, h.ne, ?_, World.cell?_setCell_same _ _ _ c1, fun j => by rw [World.frozen?_setCell]; exact h.fr j, h.ok⟩, hk⟩
  rw [World.cell?_setCell_other _ ⟨Q, 1, none⟩ ⟨Q, 0, none⟩ _ (fun q => absurd (congrArg Addr.off q) (by simp))]; exact h.c0
set_option maxHeartbeats 400000 in
/-- the reference's Frozen -/
theorem refFrozen6 {w : World} {Q R : Nat} {es : List En} {hs : List Int} {bs : List Nat} {fz : Bool} (h : Rt w Q R es hs bs fz) :
    Calls Try.prog 52 #[.pointer (some ⟨Q, 0, none⟩)] w fun r w' => r = .returned (.bool fz) ∧ w' = w := by
  have c1 := h.c1
  clear h
  go_enter Try.func52, Try.ntmps52
  go_wp2
  go_ret
  exact ⟨rfl, rfl⟩
set_option maxHeartbeats 400000 in
/-- the reference's New -/
theorem refNew6 (w : World) : Calls Try.prog 11 #[] w fun r w' => ∃ Q R bs, r = .returned (.pointer (some ⟨Q, 0, none⟩)) ∧ w.heap.size ≤ Q ∧ w.heap.size ≤ R ∧ (∀ b ∈ bs, w.heap.size ≤ b) ∧ Rt w' Q R [] [] bs false ∧ Below w.heap.size w w' := by
  have HN : Hid _ := refNew_any w none 0 0 [] ⟨fun h => absurd rfl h, by simp⟩ rfl (fun _ => rfl) (by simp)
  go_enter Try.func11, Try.ntmps11
  go_wp2_with fail
  refine Calls.mono HN.out ?_
  rintro e w1 ⟨R, bs, rfl, hR, hbs, hrl, hb1⟩
  have HR : Hid (w.heap.size ≤ R ∧ (∀ b ∈ bs, w.heap.size ≤ b) ∧ Rl w1 R [] [] [] bs ∧ Below w.heap.size w w1) := ⟨hR, hbs, hrl, hb1⟩
  clear hR hbs hrl hb1
  go_wp2
  go_ret
  obtain ⟨hR, hbs, hrl, hb1⟩ := HR.out
  have hc : Below w1.heap.size w1 (w1.alloc (.cells #[.pointer (some ⟨R, 0, none⟩), .bool false] 106)) := (Below.refl _ _).alloc (Nat.le_refl _) _
  refine ⟨w1.heap.size, R, bs, rfl, hb1.size, hR, hbs, ⟨hrl.below hc, by simp, ⟨fun e => ?_, fun hb => ?_⟩, ?_, ?_, fun j => ?_, by simp⟩, hb1.trans (hc.mono hb1.size)⟩
  · have := hrl.lt; omega
  · have := (hrl.low _ hb).1; omega
  · rw [World.cell?_alloc_at _ _ _ _ rfl]; rfl
  · rw [World.cell?_alloc_at _ _ _ _ rfl]; rfl
  · unfold World.frozen?; rw [World.alloc_heap_new]; rfl
end Mem
end Go.Proofs.Ytcioaoanhmpdkaa
namespace Go.Proofs.Ytcioaoanhmpdkaa
namespace Mem
open Go.RowKit Laws Irw Erw KMath Skm Byt Sk Grp Crw Chk
set_option linter.unusedVariables false
set_option maxRecDepth 100000
set_option linter.unusedSimpArgs false
/-- what the reference's Get finds -/
def rgk (k : ByteArray) (s : Int) (es : List En) : Option En := if plc k s es < es.length ∧ (es.getD (plc k s es) ez).1 = k then some (es.getD (plc k s es) ez) else none
set_option maxHeartbeats 1000000 in
/-- the reference's Get -/
theorem refGet6 {w : World} {Q R : Nat} {es : List En} {hs : List Int} {bs : List Nat} {fz : Bool} (h : Rt w Q R es hs bs fz) (hl : es.length ≤ 2932031007402) (k : ByteArray) (s : Int) :
    Calls Try.prog 45 #[.pointer (some ⟨Q, 0, none⟩), .string k, .int .u64 s] w fun r w' => r = .returned (getV (rgk k s es)) ∧ Below w.heap.size w w' := by
  have hb1 : Below w.heap.size w (w.alloc (.cells #[.string ⟨#[]⟩, .int .u64 0, .bool false, .string ⟨#[]⟩] 77)) := (Below.refl _ _).alloc (Nat.le_refl _) _
  have g1 : (w.alloc (.cells #[.string ⟨#[]⟩, .int .u64 0, .bool false, .string ⟨#[]⟩] 77)).heap[w.heap.size]? = some (.cells #[.string ⟨#[]⟩, .int .u64 0, .bool false, .string ⟨#[]⟩] 77) := World.alloc_heap_new _ _
  have t0 := (h.below hb1).c0
  have HR : Hid (Rt w Q R es hs bs fz) := h
  clear h
  go_enter Try.func45, Try.ntmps45
  go_wp2_with fail
  generalize w.alloc (.cells #[.string ⟨#[]⟩, .int .u64 0, .bool false, .string ⟨#[]⟩] 77) = W1 at *
  refine (refSeek_any W1 R [] es hs bs (HR.out.below hb1).rl hl k s).mono ?_
  rintro e w2 ⟨rfl, hb12⟩
  have hb2 : Below w.heap.size w w2 := keepB hb12 hb1
  have g2 := (hb12.block _ (Array.getElem?_eq_some_iff.1 g1).1).trans g1
  have HB2 : Hid (Below w.heap.size w w2) := hb2
  clear t0 hb1 g1 hb12 hb2
  obtain ⟨M, hM⟩ : ∃ M, plc k s es = M := ⟨_, rfl⟩
  rw [hM]
  have HG : Hid (w2.heap[w.heap.size]? = some (.cells #[.string ⟨#[]⟩, .int .u64 0, .bool false, .string ⟨#[]⟩] 77)) := g2
  clear g2
  by_cases hlt : M < es.length
  · have hv : refSeekV es M = .tuple #[.agg #[.string (es.getD M ez).1, .int .u64 (es.getD M ez).2.1, .bool (es.getD M ez).2.2.1, .string (es.getD M ez).2.2.2], .bool true] := by unfold refSeekV; rw [if_pos hlt]
    rw [hv]
    by_cases hk : (es.getD M ez).1 = k
    · have HV : Hid (rgk k s es = some (es.getD M ez)) := by show rgk k s es = _; unfold rgk; rw [hM, if_pos ⟨hlt, hk⟩]
      clear hv hM HR
      generalize es.getD M ez = y at *
      obtain ⟨yk, ys, yd, yv⟩ := y
      dsimp only at hk ⊢
      subst hk
      have hb3 : Below w2.heap.size w2 (w2.alloc (.cells #[.string yk, .int .u64 ys, .bool yd, .string yv] 77)) := (Below.refl _ _).alloc (Nat.le_refl _) _
      have g3 := (hb3.block _ (Array.getElem?_eq_some_iff.1 HG.out).1).trans HG.out
      have c0 : (w2.alloc (.cells #[.string yk, .int .u64 ys, .bool yd, .string yv] 77)).cell? ⟨w.heap.size, 0, none⟩ = some (.string ⟨#[]⟩) := by rw [cell_of_obj g3]; rfl
      have c1 : (w2.alloc (.cells #[.string yk, .int .u64 ys, .bool yd, .string yv] 77)).cell? ⟨w.heap.size, 1, none⟩ = some (.int .u64 0) := by rw [cell_of_obj g3]; rfl
      have c2 : (w2.alloc (.cells #[.string yk, .int .u64 ys, .bool yd, .string yv] 77)).cell? ⟨w.heap.size, 2, none⟩ = some (.bool false) := by rw [cell_of_obj g3]; rfl
      have c3 : (w2.alloc (.cells #[.string yk, .int .u64 ys, .bool yd, .string yv] 77)).cell? ⟨w.heap.size, 3, none⟩ = some (.string ⟨#[]⟩) := by rw [cell_of_obj g3]; rfl
      have fz : ∀ j, (w2.alloc (.cells #[.string yk, .int .u64 ys, .bool yd, .string yv] 77)).frozen? ⟨w.heap.size, j, none⟩ = false := fun j => froz_of_obj g3
      obtain ⟨z0, z1, z2, z3⟩ := set4_cells (v0 := .string yk) (v1 := .int .u64 ys) (v2 := .bool yd) (v3 := .string yv) ⟨c0, c1, c2, c3⟩
      have HB3 : Hid (Below w.heap.size w (w2.alloc (.cells #[.string yk, .int .u64 ys, .bool yd, .string yv] 77))) := keepB hb3 HB2.out
      have HB4 : Hid (Below w.heap.size w (((((w2.alloc (.cells #[.string yk, .int .u64 ys, .bool yd, .string yv] 77)).setCell ⟨w.heap.size, 0, none⟩ (.string yk)).setCell ⟨w.heap.size, 1, none⟩ (.int .u64 ys)).setCell ⟨w.heap.size, 2, none⟩ (.bool yd)).setCell ⟨w.heap.size, 3, none⟩ (.string yv))) := (((HB3.out.setCell (p := ⟨w.heap.size, 0, none⟩) (Nat.le_refl _) _).setCell (p := ⟨w.heap.size, 1, none⟩) (Nat.le_refl _) _).setCell (p := ⟨w.heap.size, 2, none⟩) (Nat.le_refl _) _).setCell (p := ⟨w.heap.size, 3, none⟩) (Nat.le_refl _) _
      clear g3 hb3
      go_wp2
      generalize ((((w2.alloc (.cells #[.string yk, .int .u64 ys, .bool yd, .string yv] 77)).setCell ⟨w.heap.size, 0, none⟩ (.string yk)).setCell ⟨w.heap.size, 1, none⟩ (.int .u64 ys)).setCell ⟨w.heap.size, 2, none⟩ (.bool yd)).setCell ⟨w.heap.size, 3, none⟩ (.string yv) = W4 at *
      refine ⟨rfl, getV (rgk yk s es), ?_, rfl, HB4.out⟩
      rw [HV.out]
      simp [getV, results, Try.results45, go_sem, z0, z1, z2, z3]
    · have HV : Hid (rgk k s es = none) := by show rgk k s es = _; unfold rgk; rw [hM, if_neg (fun h => hk h.2)]
      clear hv hM HR
      generalize es.getD M ez = y at *
      obtain ⟨yk, ys, yd, yv⟩ := y
      dsimp only at hk ⊢
      have hd1 : ¬ yk.toList = k.toList := fun h => hk (by rw [ByteArray.toList_eq, ByteArray.toList_eq] at h; cases yk; cases k; exact congrArg _ (Array.toList_inj.1 h))
      have hd2 : (yk.toList != k.toList) = true := by simp [hd1]
      have hd3 : (yk.toList == k.toList) = false := by simp [hd1]
      have hb3 : Below w2.heap.size w2 (w2.alloc (.cells #[.string yk, .int .u64 ys, .bool yd, .string yv] 77)) := (Below.refl _ _).alloc (Nat.le_refl _) _
      have g3 := (hb3.block _ (Array.getElem?_eq_some_iff.1 HG.out).1).trans HG.out
      have c0 : (w2.alloc (.cells #[.string yk, .int .u64 ys, .bool yd, .string yv] 77)).cell? ⟨w.heap.size, 0, none⟩ = some (.string ⟨#[]⟩) := by rw [cell_of_obj g3]; rfl
      have c1 : (w2.alloc (.cells #[.string yk, .int .u64 ys, .bool yd, .string yv] 77)).cell? ⟨w.heap.size, 1, none⟩ = some (.int .u64 0) := by rw [cell_of_obj g3]; rfl
      have c2 : (w2.alloc (.cells #[.string yk, .int .u64 ys, .bool yd, .string yv] 77)).cell? ⟨w.heap.size, 2, none⟩ = some (.bool false) := by rw [cell_of_obj g3]; rfl
      have c3 : (w2.alloc (.cells #[.string yk, .int .u64 ys, .bool yd, .string yv] 77)).cell? ⟨w.heap.size, 3, none⟩ = some (.string ⟨#[]⟩) := by rw [cell_of_obj g3]; rfl
      have fz : ∀ j, (w2.alloc (.cells #[.string yk, .int .u64 ys, .bool yd, .string yv] 77)).frozen? ⟨w.heap.size, j, none⟩ = false := fun j => froz_of_obj g3
      obtain ⟨z0, z1, z2, z3⟩ := set4_cells (v0 := .string ⟨#[]⟩) (v1 := .int .u64 0) (v2 := .bool false) (v3 := .string ⟨#[]⟩) ⟨c0, c1, c2, c3⟩
      have HB3 : Hid (Below w.heap.size w (w2.alloc (.cells #[.string yk, .int .u64 ys, .bool yd, .string yv] 77))) := keepB hb3 HB2.out
      have HB4 : Hid (Below w.heap.size w (((((w2.alloc (.cells #[.string yk, .int .u64 ys, .bool yd, .string yv] 77)).setCell ⟨w.heap.size, 0, none⟩ (.string ⟨#[]⟩)).setCell ⟨w.heap.size, 1, none⟩ (.int .u64 0)).setCell ⟨w.heap.size, 2, none⟩ (.bool false)).setCell ⟨w.heap.size, 3, none⟩ (.string ⟨#[]⟩))) := (((HB3.out.setCell (p := ⟨w.heap.size, 0, none⟩) (Nat.le_refl _) _).setCell (p := ⟨w.heap.size, 1, none⟩) (Nat.le_refl _) _).setCell (p := ⟨w.heap.size, 2, none⟩) (Nat.le_refl _) _).setCell (p := ⟨w.heap.size, 3, none⟩) (Nat.le_refl _) _
      clear g3 hb3
      go_wp2
      generalize ((((w2.alloc (.cells #[.string yk, .int .u64 ys, .bool yd, .string yv] 77)).setCell ⟨w.heap.size, 0, none⟩ (.string ⟨#[]⟩)).setCell ⟨w.heap.size, 1, none⟩ (.int .u64 0)).setCell ⟨w.heap.size, 2, none⟩ (.bool false)).setCell ⟨w.heap.size, 3, none⟩ (.string ⟨#[]⟩) = W4 at *
      refine ⟨rfl, getV (rgk k s es), ?_, rfl, HB4.out⟩
      rw [HV.out]
      simp [getV, results, Try.results45, go_sem, z0, z1, z2, z3]
  · have hv : refSeekV es M = .tuple #[.agg #[.string ⟨#[]⟩, .int .u64 0, .bool false, .string ⟨#[]⟩], .bool false] := by unfold refSeekV; rw [if_neg hlt]
    have HV : Hid (rgk k s es = none) := by show rgk k s es = _; unfold rgk; rw [hM, if_neg (fun h => hlt h.1)]
    rw [hv]
    clear hv hM HR
    have hb3 : Below w2.heap.size w2 (w2.alloc (.cells #[.string ⟨#[]⟩, .int .u64 0, .bool false, .string ⟨#[]⟩] 77)) := (Below.refl _ _).alloc (Nat.le_refl _) _
    have g3 := (hb3.block _ (Array.getElem?_eq_some_iff.1 HG.out).1).trans HG.out
    have c0 : (w2.alloc (.cells #[.string ⟨#[]⟩, .int .u64 0, .bool false, .string ⟨#[]⟩] 77)).cell? ⟨w.heap.size, 0, none⟩ = some (.string ⟨#[]⟩) := by rw [cell_of_obj g3]; rfl
    have c1 : (w2.alloc (.cells #[.string ⟨#[]⟩, .int .u64 0, .bool false, .string ⟨#[]⟩] 77)).cell? ⟨w.heap.size, 1, none⟩ = some (.int .u64 0) := by rw [cell_of_obj g3]; rfl
    have c2 : (w2.alloc (.cells #[.string ⟨#[]⟩, .int .u64 0, .bool false, .string ⟨#[]⟩] 77)).cell? ⟨w.heap.size, 2, none⟩ = some (.bool false) := by rw [cell_of_obj g3]; rfl
    have c3 : (w2.alloc (.cells #[.string ⟨#[]⟩, .int .u64 0, .bool false, .string ⟨#[]⟩] 77)).cell? ⟨w.heap.size, 3, none⟩ = some (.string ⟨#[]⟩) := by rw [cell_of_obj g3]; rfl
    have fz : ∀ j, (w2.alloc (.cells #[.string ⟨#[]⟩, .int .u64 0, .bool false, .string ⟨#[]⟩] 77)).frozen? ⟨w.heap.size, j, none⟩ = false := fun j => froz_of_obj g3
    obtain ⟨z0, z1, z2, z3⟩ := set4_cells (v0 := .string ⟨#[]⟩) (v1 := .int .u64 0) (v2 := .bool false) (v3 := .string ⟨#[]⟩) ⟨c0, c1, c2, c3⟩
    have HB3 : Hid (Below w.heap.size w (w2.alloc (.cells #[.string ⟨#[]⟩, .int .u64 0, .bool false, .string ⟨#[]⟩] 77))) := keepB hb3 HB2.out
    have HB4 : Hid (Below w.heap.size w (((((w2.alloc (.cells #[.string ⟨#[]⟩, .int .u64 0, .bool false, .string ⟨#[]⟩] 77)).setCell ⟨w.heap.size, 0, none⟩ (.string ⟨#[]⟩)).setCell ⟨w.heap.size, 1, none⟩ (.int .u64 0)).setCell ⟨w.heap.size, 2, none⟩ (.bool false)).setCell ⟨w.heap.size, 3, none⟩ (.string ⟨#[]⟩))) := (((HB3.out.setCell (p := ⟨w.heap.size, 0, none⟩) (Nat.le_refl _) _).setCell (p := ⟨w.heap.size, 1, none⟩) (Nat.le_refl _) _).setCell (p := ⟨w.heap.size, 2, none⟩) (Nat.le_refl _) _).setCell (p := ⟨w.heap.size, 3, none⟩) (Nat.le_refl _) _
    clear g3 hb3
    go_wp2
    generalize ((((w2.alloc (.cells #[.string ⟨#[]⟩, .int .u64 0, .bool false, .string ⟨#[]⟩] 77)).setCell ⟨w.heap.size, 0, none⟩ (.string ⟨#[]⟩)).setCell ⟨w.heap.size, 1, none⟩ (.int .u64 0)).setCell ⟨w.heap.size, 2, none⟩ (.bool false)).setCell ⟨w.heap.size, 3, none⟩ (.string ⟨#[]⟩) = W4 at *
    refine ⟨rfl, getV (rgk k s es), ?_, rfl, HB4.out⟩
    rw [HV.out]
    simp [getV, results, Try.results45, go_sem, z0, z1, z2, z3]
end Mem
end Go.Proofs.Ytcioaoanhmpdkaa
