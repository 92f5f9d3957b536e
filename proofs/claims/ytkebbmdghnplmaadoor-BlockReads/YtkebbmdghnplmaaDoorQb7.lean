import Derived.Test.YtkebbmdghnplmaaDoorQb6
import Derived.Test.YtkebbmdghnplmaaDoorQe1
namespace Go.Proofs.YtkebbmdghnplmaaDoor
namespace Qb
open Go.RowKit Go.Shelf CMath Byt Laws Irw Crw Cod Qe
set_option linter.unusedVariables false
set_option linter.unusedSimpArgs false
set_option maxRecDepth 100000
attribute [local go_sem] Oper.semAt_some

/-- What rdE reads is short. -/
theorem rdE_le {b ah : List Nat} {x : En × Nat} (hb : ∀ x ∈ b, x < 256) (ha : ∀ x ∈ ah, x < 256) (h : rdE b ah = some x) : x.1.1.size ≤ 64 ∧ x.2 ≤ b.length := by
  have rdl : ∀ p, (rd (b.drop p) 0 0).2.2 = 0 → p + (rd (b.drop p) 0 0).2.1 ≤ b.length ∨ b.length < p := by
    intro p hz
    have hd : ∀ x ∈ b.drop p, x < 256 := fun x hx => hb x (List.mem_of_mem_drop hx)
    have he : rd (b.drop p) 0 0 = ((rd (b.drop p) 0 0).1, (rd (b.drop p) 0 0).2.1, 0) := Prod.ext rfl (Prod.ext rfl hz)
    have h6 := rd_bytes hd he
    rw [List.length_drop] at h6
    omega
  have hk : ∀ {s m p : Nat}, ¬ (ah.length < s ∨ 64 < s + m ∨ b.length - p < m) → (ofB (ah.take s ++ (b.drop p).take m)).size ≤ 64 := by
    intro s m p h
    rw [← strB_length, strB_ofB (byte_app (fun y hy => ha y (List.mem_of_mem_take hy)) (fun y hy => hb y (List.mem_of_mem_drop (List.mem_of_mem_take hy))))]
    simp
    omega
  unfold rdE at h
  split at h
  · cases h
  split at h
  · cases h
  split at h
  · cases h
  rename_i z0 z1 z2
  have l0 := rdl 0 (by simpa using z0)
  simp only [List.drop_zero, Nat.zero_add] at l0
  have l1 := rdl _ (by simpa using z1)
  have l2 := rdl _ (by simpa using z2)
  unfold rdE.rdK at h
  split at h
  · cases h
  rename_i hbad
  split at h
  · cases h
    exact ⟨hk hbad, by simp only; omega⟩
  split at h
  · cases h
  · cases h
    refine ⟨hk hbad, ?_⟩
    have := text_le (b.drop ((rd b 0 0).2.1 + (rd (b.drop (rd b 0 0).2.1) 0 0).2.1 + (rd (b.drop ((rd b 0 0).2.1 + (rd (b.drop (rd b 0 0).2.1) 0 0).2.1)) 0 0).2.1 + (rd (b.drop (rd b 0 0).2.1) 0 0).1)) 512
    rw [List.length_drop] at this
    simp only
    omega

/-- A block as it lies; what it reads isn't of the tags that turn. -/
structure BlkAt (u : Nat → Prop) (T : Nat → Nat) (w : World) (K o : Nat) (eb pb : List Nat) : Prop where
  lt : K < w.heap.size
  tag : ¬ u (T K)
  ent : ∃ a c, w.cell? ⟨K, o, none⟩ = some (.slice a eb.length c) ∧ IsB w a eb ∧ eb.length ≤ c ∧ (c ≤ 9223372036854775807 ∧ eb.length ≤ 1000000000000) ∧ ∀ b off, a = some ⟨b, off, none⟩ → eb ≠ [] → ¬ u (T b)
  pla : ∃ a c, w.cell? ⟨K, o + 1, none⟩ = some (.slice a pb.length c) ∧ IsB w a pb ∧ pb.length ≤ c ∧ (c ≤ 9223372036854775807 ∧ pb.length ≤ 1000000000000) ∧ ∀ b off, a = some ⟨b, off, none⟩ → pb ≠ [] → ¬ u (T b)
theorem isB_goes {u : Nat → Prop} {T T' : Nat → Nat} {w w' : World} {a : Option Addr} {l : List Nat} (h : IsB w a l) (hg : Goes u T w T' w') (ht : ∀ b off, a = some ⟨b, off, none⟩ → l ≠ [] → ¬ u (T b)) : IsB w' a l ∧ ∀ b off, a = some ⟨b, off, none⟩ → l ≠ [] → ¬ u (T' b) := by
  refine ⟨⟨fun hne => ?_, h.2⟩, fun b off e hne => ?_⟩
  · obtain ⟨b, off, e, hr⟩ := h.1 hne
    exact ⟨b, off, e, hr.keep (hg.block b hr.1 (ht b off e hne)) hg.size⟩
  · obtain ⟨b', off', e', hr⟩ := h.1 hne
    rw [e] at e'
    cases e'
    rw [hg.tag b hr.1 (ht b off e hne)]
    exact ht b off e hne
theorem BlkAt.goes {u : Nat → Prop} {T T' : Nat → Nat} {w w' : World} {K o : Nat} {eb pb : List Nat} (h : BlkAt u T w K o eb pb) (hg : Goes u T w T' w') : BlkAt u T' w' K o eb pb := by
  obtain ⟨a, c, h1, h2, h3, h4, h5⟩ := h.ent
  obtain ⟨a', c', k1, k2, k3, k4, k5⟩ := h.pla
  have i1 := isB_goes h2 hg h5
  have i2 := isB_goes k2 hg k5
  exact ⟨Nat.lt_of_lt_of_le h.lt hg.size, by rw [hg.tag K h.lt h.tag]; exact h.tag, ⟨a, c, (hg.cell h.lt h.tag).trans h1, i1.1, h3, h4, i1.2⟩, ⟨a', c', (hg.cell h.lt h.tag).trans k1, i2.1, k3, k4, i2.2⟩⟩
theorem BlkAt.below {u : Nat → Prop} {T : Nat → Nat} {w w' : World} {K o : Nat} {eb pb : List Nat} (h : BlkAt u T w K o eb pb) (hb : Below w.heap.size w w') : BlkAt u T w' K o eb pb := h.goes (Goes.below hb)

def encP (x : Nat × En) : Array Value := #[.int .i64 (x.1 : Int), .agg #[.string x.2.1, .int .u64 x.2.2.1, .bool x.2.2.2.1, .string x.2.2.2.2]]
def pos : Nat → List (En × Nat) → List (Nat × En)
  | _, [] => []
  | p, x :: t => (p, x.1) :: pos (p + x.2) t
/-- What walk gives from a place on. -/
def wkp (eb : List Nat) (fr : Nat) : List (Nat × En) := pos fr (wk (eb.drop fr) [])

set_option maxHeartbeats 4000000 in
theorem walk_in (u : Nat → Prop) (hu0 : ¬ u 0) (n : Nat) (hn : 1 ≤ n) (T0 : Nat → Nat) (l Bk Bf K o fr : Nat) (eb pb : List Nat) (W : World) (hfr : fr ≤ eb.length)
    (hk : BlkAt u T0 W K o eb pb) (hz0 : ∀ b, W.heap.size ≤ b → T0 b = 0)
    (hBk : W.cell? ⟨Bk, 0, none⟩ = some (.pointer (some ⟨K, o, none⟩))) (hBf : W.cell? ⟨Bf, 0, none⟩ = some (.int .i64 (fr : Int))) (tBk : ¬ u (T0 Bk)) (tBf : ¬ u (T0 Bf))
    (J Jx : List (Nat × En) → (Nat → Nat) → World → Prop) (hJ : Lasts W.heap.size J) (hJx : Lasts W.heap.size Jx) (h0 : J [] T0 W)
    (hY : ∀ (es : List (Nat × En)) (e : Nat × En) T W1, J es T W1 → (∀ b, W1.heap.size ≤ b → T b = 0) → es ++ [e] <+: wkp eb fr → YieldAt Fence.wide (n - 1) Tryd.prog l (encP e) W1 fun r W2 => ∃ b, r = .returned (.bool b) ∧ Gives u W.heap.size J Jx (es ++ [e]) T W1 b W2) :
    CallsIn Fence.wide n Tryd.prog 69 #[.func (.yield l) #[] #[], .pointer (some ⟨Bk, 0, none⟩), .pointer (some ⟨Bf, 0, none⟩)] W fun e W' => (∃ v, e = .returned v) ∧ ((∃ T', J (wkp eb fr) T' W') ∨ ∃ es T', es <+: wkp eb fr ∧ Jx es T' W') := by
  have HK : Hid (BlkAt u T0 W K o eb pb) := hk
  have HY : Hid (∀ (es : List (Nat × En)) (e : Nat × En) T W1, J es T W1 → (∀ b, W1.heap.size ≤ b → T b = 0) → es ++ [e] <+: wkp eb fr → YieldAt Fence.wide (n - 1) Tryd.prog l (encP e) W1 fun r W2 => ∃ b, r = .returned (.bool b) ∧ Gives u W.heap.size J Jx (es ++ [e]) T W1 b W2) := hY
  have HJ : Hid (Lasts W.heap.size J ∧ Lasts W.heap.size Jx) := ⟨hJ, hJx⟩
  have H0 : Hid (J [] T0 W) := h0
  have HT : Hid (¬ u 0 ∧ ¬ u (T0 Bk) ∧ ¬ u (T0 Bf) ∧ ∀ b, W.heap.size ≤ b → T0 b = 0) := ⟨hu0, tBk, tBf, hz0⟩
  obtain ⟨a, c, ce, hie, hec, hc12, _⟩ := hk.ent
  have hby := hie.2
  have HBY : Hid (∀ x ∈ eb, x < 256) := hby
  have lBk := World.block_lt_of_cell? W _ hBk
  have lBf := World.block_lt_of_cell? W _ hBf
  clear hY hJ hJx h0 hu0 tBk tBf hz0 hk hie hby
  refine callsIn_of_wp Tryd.func69 rfl trivial ?_ rfl
  simp only [Tryd.ntmps69, List.size_toArray, List.length_cons, List.length_nil, Nat.reduceAdd, Nat.reduceSub, Array.replicate_succ, Array.replicate_zero, List.push_toArray, List.append_toArray, List.nil_append, List.cons_append]
  have hfR : Fence.wide.fn 70 := trivial
  gi_wp2
  gi_loopw [5, 6] (fun s i wr => ∃ (p : Nat) (A : ByteArray) (es : List (Nat × En)) (T : Nat → Nat), p ≤ eb.length ∧ A.size ≤ 64 ∧ s = .string A ∧ i = .int .i64 (p : Int) ∧ Hid (es ++ pos p (wk (eb.drop p) (strB A)) = wkp eb fr ∧ J es T wr ∧ Goes u T0 W T wr ∧ ∀ b, wr.heap.size ≤ b → T b = 0)) (fun _ i _ => eb.length - (intOf i).toNat)
  case atStart => exact ⟨fr, ⟨#[]⟩, [], T0, hfr, Nat.zero_le _, rfl, rfl, rfl, H0.out, Goes.refl _ _ _, HT.out.2.2.2⟩
  case round =>
    obtain ⟨p, A, es, T, hp, hA, rfl, rfl, HR⟩ := hrel
    have HGO := HR.out.2.2.1
    by_cases hlt : p < eb.length
    · have q1 : (p : Int) < (eb.length : Int) := by omega
      have hne : eb ≠ [] := by rintro rfl; simp at hlt
      have hkw := HK.out.goes HGO
      obtain ⟨a', c', ce', hie', _, _, _⟩ := hkw.ent
      have cK : wr.cell? ⟨K, o, none⟩ = some (.slice a eb.length c) := (HGO.cell HK.out.lt HK.out.tag).trans ce
      rw [cK] at ce'
      cases ce'
      obtain ⟨b, off, rfl, hrow⟩ := hie'.1 hne
      have cBk : wr.cell? ⟨Bk, 0, none⟩ = some (.pointer (some ⟨K, o, none⟩)) := (HGO.cell lBk HT.out.2.1).trans hBk
      have HC : Hid (Calls Tryd.prog 70 #[.slice (some ⟨b, off + p, none⟩) (eb.length - p) (eb.length - p), .string A] wr fun e w' => ReIs (eb.drop p) A wr e w') := readEntry_any b (off + p) (eb.length - p) (eb.length - p) (eb.drop p) A wr (isB_drop hie' p) (by simp) (by omega) (by simp) hA
      clear hkw hie' hrow hne
      have HHI : Hid (∀ b, wr.heap.size ≤ b → T b = 0) := HR.out.2.2.2
      have HJ1 : Hid (J es T wr) := HR.out.2.1
      cases hrd : rdE (eb.drop p) (strB A) with
      | none =>
        have HEQ : Hid (es = wkp eb fr) := by
          have := HR.out.1
          rw [wk_none hrd] at this
          show _ = _
          rw [← this]; simp [pos]
        have HC2 : Hid (Calls Tryd.prog 70 #[.slice (some ⟨b, off + p, none⟩) (eb.length - p) (eb.length - p), .string A] wr fun e w' => e = .returned (.tuple #[.agg #[.string ⟨#[]⟩, .int .u64 0, .bool false, .string ⟨#[]⟩], .int .i64 0, .bool false]) ∧ Below wr.heap.size wr w') := HC.out.mono fun e w' h => by
          obtain ⟨h1, h2⟩ := h
          rw [hrd] at h1
          exact ⟨h1, h2⟩
        clear HC hrd
        gi_wp2_with (gi_at_call 70; go_loud (refine (callsIn_wide.2 HC2.out).mono ?_; rintro e w1 ⟨rfl, hb1⟩; have HB1 : Hid (Below wr.heap.size wr w1) := hb1; clear hb1))
        refine ⟨(by intro f h; cases h), ?_⟩
        gi_wp2
        refine bodyPost_ret (results_none rfl _ _ _) rfl ?_
        refine ⟨⟨_, rfl⟩, .inl ⟨T, ?_⟩⟩
        rw [← HEQ.out]
        have hbz := HB1.out.alloc HB1.out.size (.cells #[.string ⟨#[]⟩, .int .u64 0, .bool false, .string ⟨#[]⟩] 30)
        exact HJ.out.1 es T wr _ none HJ1.out ⟨hbz.os, hbz.tape, hbz.output, hbz.size, fun b hb _ => hbz.block b hb⟩ (fun r e => by cases e)
      | some x =>
        have hle := rdE_le (fun y hy => HBY.out y (List.mem_of_mem_drop hy)) (strB_byte A) hrd
        have hpos := rdE_pos hrd (fun y hy => HBY.out y (List.mem_of_mem_drop hy))
        obtain ⟨⟨xk, xs, xd, xv⟩, k⟩ := x
        simp only at hle hpos
        rw [List.length_drop] at hle
        have HEQ : Hid ((es ++ [(p, (xk, xs, xd, xv))]) ++ pos (p + k) (wk (eb.drop (p + k)) (strB xk)) = wkp eb fr) := by
          have := HR.out.1
          rw [wk_some (by intro h; have := congrArg List.length h; simp at this; omega) (fun y hy => HBY.out y (List.mem_of_mem_drop hy)) hrd] at this
          show _ = _
          rw [← this]
          simp only [pos, List.drop_drop, List.append_assoc, List.singleton_append]
          rfl
        have HPX : Hid (es ++ [(p, (xk, xs, xd, xv))] <+: wkp eb fr) := ⟨_, HEQ.out⟩
        have HC2 : Hid (Calls Tryd.prog 70 #[.slice (some ⟨b, off + p, none⟩) (eb.length - p) (eb.length - p), .string A] wr fun e w' => e = .returned (.tuple #[.agg #[.string xk, .int .u64 xs, .bool xd, .string xv], .int .i64 (k : Int), .bool true]) ∧ Below wr.heap.size wr w') := HC.out.mono fun e w' h => by
          obtain ⟨h1, h2⟩ := h
          rw [hrd] at h1
          exact ⟨h1, h2⟩
        clear HC hrd
        have HGOH : Hid (Goes u T0 W T wr) := HGO
        clear HGO
        gi_wp2_with (gi_at_call 70; go_loud (refine (callsIn_wide.2 HC2.out).mono ?_; rintro e w1 ⟨rfl, hb1⟩; have HB1 : Hid (Below wr.heap.size wr w1) := hb1; have hsz1 := hb1.size; clear hb1; obtain ⟨fn, tmps, assign, body, hy, hR⟩ := HY.out es (p, (xk, xs, xd, xv)) T (w1.alloc (.cells #[.string xk, .int .u64 xs, .bool xd, .string xv] 30)) (HJ.out.1 es T wr _ none HJ1.out ⟨(HB1.out.alloc (by omega) _).os, (HB1.out.alloc (by omega) _).tape, (HB1.out.alloc (by omega) _).output, (HB1.out.alloc (by omega) _).size, fun b hb _ => (HB1.out.alloc (by omega) _).block b hb⟩ (fun r e => by cases e)) (fun b hb => HHI.out b (by simp at hb; omega)) HPX.out; simp only [encP] at hy))
        refine hR.mono ?_
        rintro r W3 ⟨bo, rfl, hj⟩
        have HG3 : Hid (Gives u W.heap.size J Jx (es ++ [(p, (xk, xs, xd, xv))]) T (w1.alloc (.cells #[.string xk, .int .u64 xs, .bool xd, .string xv] 30)) bo W3) := hj
        clear hj hR hy
        cases bo with
        | true =>
          obtain ⟨T2, _, q5, _⟩ := HG3.out
          obtain ⟨q1', q2, q3⟩ := q5 rfl
          have HJ3 : Hid (J (es ++ [(p, (xk, xs, xd, xv))]) T2 W3.drew ∧ Goes u T0 W T2 W3.drew ∧ ∀ b, W3.drew.heap.size ≤ b → T2 b = 0) := ⟨HJ.out.1 _ T2 W3 W3.drew none q1' ⟨rfl, rfl, rfl, Nat.le_refl _, fun _ _ _ => rfl⟩ (fun r e => by cases e), ((HGOH.out.trans (Goes.below (HB1.out.alloc (by omega) _))).trans q2).trans (Goes.below (Below.refl _ _).drew), q3⟩
          have cx : W3.cell? ⟨w1.heap.size, 0, none⟩ = some (.string xk) := (q2.cell (b := w1.heap.size) (j := 0) (by simp) (by rw [HHI.out _ hsz1]; exact HT.out.1)).trans (by simp)
          clear q1' q2 q3 q5 HG3
          gi_wp2
          gi_region
          all_goals
            gi_wp2
            go_roundw
            case rel =>
              exact ⟨p + k, xk, es ++ [(p, (xk, xs, xd, xv))], T2, by omega, hle.1, rfl, by go_num, HEQ.out, HJ3.out⟩
            case measure => simp [intOf]; omega
        | false =>
          obtain ⟨T2, _, _, q5⟩ := HG3.out
          have HJ3 : Hid (Jx (es ++ [(p, (xk, xs, xd, xv))]) T2 W3) := q5 rfl
          clear q5 HG3
          gi_wp2
          refine bodyPost_ret (results_none rfl _ _ _) rfl ?_
          exact ⟨⟨_, rfl⟩, .inr ⟨_, T2, HPX.out, HJ3.out⟩⟩
    · have hpL : p = eb.length := by omega
      subst hpL
      have HEQ : Hid (es = wkp eb fr) := by
        have := HR.out.1
        rw [List.drop_length, wk_nil] at this
        show _ = _
        rw [← this]; simp [pos]
      gi_wp2
      go_end0
      refine ⟨⟨_, rfl⟩, .inl ⟨T, ?_⟩⟩
      rw [← HEQ.out]
      exact HR.out.2.1

/-- walk makes an iterator. -/
theorem walk_any (w : World) (K o : Nat) (fr : Nat) :
    Calls Tryd.prog 36 #[.pointer (some ⟨K, o, none⟩), .int .i64 (fr : Int)] w fun e w' => e = .returned (.func (.func 69) #[] #[.pointer (some ⟨w.heap.size, 0, none⟩), .pointer (some ⟨w.heap.size + 1, 0, none⟩)]) ∧ Below w.heap.size w w' ∧ w'.heap.size = w.heap.size + 2 ∧ w'.cell? ⟨w.heap.size, 0, none⟩ = some (.pointer (some ⟨K, o, none⟩)) ∧ w'.cell? ⟨w.heap.size + 1, 0, none⟩ = some (.int .i64 (fr : Int)) := by
  have hmf : ∀ (fn : Fn) (first cap : Array Value) (w : World), (Instr.makeFunc fn first cap).run Tryd.prog w = .ok (.func fn first cap) w := fun _ _ _ _ => rfl
  go_enter Tryd.func36, Tryd.ntmps36
  go_wp2
  go_ret
  exact ⟨rfl, ((Below.refl _ _).alloc (Nat.le_refl _) _).alloc (by simp) _, by simp, by simp, by simp⟩
theorem walk_seq (u : Nat → Prop) (hu0 : ¬ u 0) (n : Nat) (hn : 1 ≤ n) (T0 : Nat → Nat) (Bk Bf K o fr : Nat) (eb pb : List Nat) (w : World) (hfr : fr ≤ eb.length)
    (hk : BlkAt u T0 w K o eb pb) (hz0 : ∀ b, w.heap.size ≤ b → T0 b = 0)
    (hBk : w.cell? ⟨Bk, 0, none⟩ = some (.pointer (some ⟨K, o, none⟩))) (hBf : w.cell? ⟨Bf, 0, none⟩ = some (.int .i64 (fr : Int))) (tBk : ¬ u (T0 Bk)) (tBf : ¬ u (T0 Bf)) :
    SeqE u Fence.wide n (n - 1) Tryd.prog 69 #[.pointer (some ⟨Bk, 0, none⟩), .pointer (some ⟨Bf, 0, none⟩)] encP (wkp eb fr) w T0 := fun l W J Jx hW hJ hJx h0 hY =>
  walk_in u hu0 n hn T0 l Bk Bf K o fr eb pb W hfr (hk.below hW) (fun b hb => hz0 b (Nat.le_trans hW.size hb)) ((hW.cell (p := ⟨Bk, 0, none⟩) (World.block_lt_of_cell? w _ hBk)).trans hBk) ((hW.cell (p := ⟨Bf, 0, none⟩) (World.block_lt_of_cell? w _ hBf)).trans hBf) tBk tBf J Jx hJ hJx h0 hY

end Qb
end Go.Proofs.YtkebbmdghnplmaaDoor
