import Derived.Test.YtfomnkkpiflokaaIRw
import Derived.Test.YtfomnkkpiflokaaRf1
import Derived.Deep.RegionLaw
namespace Go.Proofs.Ytfomnkkpiflokaa
namespace Irw
open Go.RowKit Laws
set_option linter.unusedVariables false

theorem run_appL2 {P : Program} (w : World) (t ty : TypeId) (i : TypeInfo) (ht : P.underlying t = some (.slice 3)) (hi : P.info? 3 = some i) (hz : i.zero = some (.int .i64 0)) (hsize : i.size = 1) (hby : i.bytes = 8)
    (s : Nat) (T : Nat → Nat) (v : Value) (l : List Int) (hown : OwnL s T w v l) (ao : Option Addr) (m c : Nat) (r : List Int) (hm : m = r.length) (hn : ao = none → c = 0) (hr : IsI w ao r) (h40 : l.length + r.length ≤ 2932031007402) :
    ∃ v' T' w', (Builtin.append_ #[t, t] ty #[v, .slice ao m c]).run P w = .ok v' w' ∧ OwnL s T' w' v' (l ++ r) ∧ Goes (· = s) T w T' w' ∧ (v'.ownBlock = v.ownBlock ∨ v'.ownBlock = some w.heap.size) ∧ (0 < r.length → v' ≠ .slice none 0 0) := by
  subst hm
  cases ao with
  | none =>
    have hr0 := hr.none
    subst hr0
    obtain rfl := hn rfl
    have hrun := run_append_owned_none (P := P) (w := w) 0 t ty 3 i 1 ht hi v l.length (cellsI l) hown.1
    exact ⟨v, T, w, hrun, by rw [List.append_nil]; exact hown, Goes.refl _ _ _, .inl rfl, by simp⟩
  | some ad =>
    obtain ⟨v', w', hrun, h2, h3, h4, h5⟩ := run_append_own_at (P := P) w 0 t ty 3 i (.int .i64 0) 1 8 ht hi hz hsize hby rfl (by omega) v l.length (cellsI l) hown.1 ad r.length c (cellsI r) (by rw [cellsI_length]; omega) (news_of hr ad rfl) (cellsI_one r) (by unfold maxLen; omega) (by omega) (Nat.zero_le _)
    rcases h2.2 with ⟨e1, e2⟩ | ⟨g, cap, cur, hv, _⟩
    · have hl : l = [] := List.eq_nil_of_length_eq_zero (by omega)
      have hr0 : r = [] := List.eq_nil_of_length_eq_zero (by omega)
      subst hl; subst hr0
      have hv := (h4.1 e1).1
      refine ⟨v', T, w', hrun, ⟨by rw [e1]; exact World.ownsRow_nil _ _ _ _, by rw [e1]; simp [Value.ownBlock]⟩, ⟨h3.os, h3.tape, h3.output, h3.size, fun b hb _ => h3.block b hb (by rw [hv]; simp [Value.ownBlock]), fun _ _ _ => rfl, fun _ _ h => h⟩, h5, by simp⟩
    · subst hv
      have hat : v.ownBlock = some g ∨ g = w.heap.size := by
        rcases h5 with h5 | h5
        · exact .inl (by rw [← h5]; rfl)
        · exact .inr (by simpa [Value.ownBlock] using h5)
      obtain ⟨k1, k2⟩ := hown.grown h3 h2 rfl hat (Nat.le_refl _)
      exact ⟨_, _, w', hrun, k1, k2, h5, by simp⟩
theorem wp_appL2 {P : Program} (w : World) {o : Oper} {a : Act} {K : Act → World → Prop} {Q : Exit → Act → World → Prop} (s x : Operand) (t : TypeId)
    (ho : o.op = .call { callee := .builtin .append, args := #[s, x], argTypes := #[t, t] })
    (i : TypeInfo) (ht : P.underlying t = some (.slice 3)) (hi : P.info? 3 = some i) (hz : i.zero = some (.int .i64 0)) (hsize : i.size = 1) (hby : i.bytes = 8)
    (g : Nat) (T : Nat → Nat) (v : Value) (l : List Int) (hs : a.eval s = v) (hown : OwnL g T w v l) (ao : Option Addr) (m c : Nat) (r : List Int) (hx : a.eval x = .slice ao m c) (hm : m = r.length) (hn : ao = none → c = 0) (hr : IsI w ao r) (h40 : l.length + r.length ≤ 2932031007402)
    (h : ∀ a' c' T' w', OwnL g T' w' (.slice a' (l.length + r.length) c') (l ++ r) → Goes (· = g) T w T' w' → ((Value.slice a' (l.length + r.length) c').ownBlock = v.ownBlock ∨ (Value.slice a' (l.length + r.length) c').ownBlock = some w.heap.size) → K (a.put o.dst (.slice a' (l.length + r.length) c')) w') : o.wp P a w K Q := by
  obtain ⟨v', T', w', hr, h2, h3, h4, h5⟩ := run_appL2 (P := P) w t o.type i ht hi hz hsize hby g T v l hown ao m c r hm hn hr h40
  unfold Oper.wp execOp
  simp only [ho, resolve, invoke, builtin, Sem.run_bind, Sem.run_pure, Result.andThen_ok, List.map_toArray, List.map_cons, List.map_nil, hs, hx, hr]
  obtain ⟨a', c', rfl, _⟩ := h2.form
  rw [List.length_append] at h2 h4 ⊢
  exact h a' c' T' w' h2 h3 h4
theorem wpList_appL2 {P : Program} (w : World) {ops : Array Oper} {rest : List Oper} {o : Oper} {a : Act} {Q : Exit → Act → World → Prop} (hgd : o.guard = none) (s x : Operand) (t : TypeId)
    (ho : o.op = .call { callee := .builtin .append, args := #[s, x], argTypes := #[t, t] })
    (i : TypeInfo) (ht : P.underlying t = some (.slice 3)) (hi : P.info? 3 = some i) (hz : i.zero = some (.int .i64 0)) (hsize : i.size = 1) (hby : i.bytes = 8)
    (g : Nat) (T : Nat → Nat) (v : Value) (l : List Int) (hs : a.eval s = v) (hown : OwnL g T w v l) (ao : Option Addr) (m c : Nat) (r : List Int) (hx : a.eval x = .slice ao m c) (hm : m = r.length) (hn : ao = none → c = 0) (hr : IsI w ao r) (h40 : l.length + r.length ≤ 2932031007402)
    (h : ∀ a' c' T' w', OwnL g T' w' (.slice a' (l.length + r.length) c') (l ++ r) → Goes (· = g) T w T' w' → ((Value.slice a' (l.length + r.length) c').ownBlock = v.ownBlock ∨ (Value.slice a' (l.length + r.length) c').ownBlock = some w.heap.size) → wpList P ops Q rest (a.put o.dst (.slice a' (l.length + r.length) c')) w') : wpList P ops Q (o :: rest) a w :=
  wpList_plain hgd fun _ hK => wp_appL2 w s x t ho i ht hi hz hsize hby g T v l hs hown ao m c r hx hm hn hr h40 fun a' c' T' w' h2 h3 h4 => hK _ _ (h a' c' T' w' h2 h3 h4)
theorem step_appL2 {P : Program} (w : World) {ops : Array Oper} {o : Oper} {a : Act} {K : Act → World → Prop} {Q : Exit → Act → World → Prop} {E : Prop} (hgd : o.guard = none) (s x : Operand) (t : TypeId)
    (ho : o.op = .call { callee := .builtin .append, args := #[s, x], argTypes := #[t, t] })
    (i : TypeInfo) (ht : P.underlying t = some (.slice 3)) (hi : P.info? 3 = some i) (hz : i.zero = some (.int .i64 0)) (hsize : i.size = 1) (hby : i.bytes = 8)
    (g : Nat) (T : Nat → Nat) (v : Value) (l : List Int) (hs : a.eval s = v) (hown : OwnL g T w v l) (ao : Option Addr) (m c : Nat) (r : List Int) (hx : a.eval x = .slice ao m c) (hm : m = r.length) (hn : ao = none → c = 0) (hr : IsI w ao r) (h40 : l.length + r.length ≤ 2932031007402)
    (h : ∀ a' c' T' w', OwnL g T' w' (.slice a' (l.length + r.length) c') (l ++ r) → Goes (· = g) T w T' w' → ((Value.slice a' (l.length + r.length) c').ownBlock = v.ownBlock ∨ (Value.slice a' (l.length + r.length) c').ownBlock = some w.heap.size) → K (a.put o.dst (.slice a' (l.length + r.length) c')) w') :
    if Region.wanted o (yielded ops a.tmps) = true then Oper.wp P o a w K Q else E := by
  have hw : Region.wanted o (yielded ops a.tmps) = true := by simp [Region.wanted, hgd]
  rw [if_pos hw]
  exact wp_appL2 w s x t ho i ht hi hz hsize hby g T v l hs hown ao m c r hx hm hn hr h40 h

end Irw
end Go.Proofs.Ytfomnkkpiflokaa
namespace Go.Proofs.Ytfomnkkpiflokaa
namespace Sk
open Go.RowKit Laws Irw Erw KMath Skm Byt
set_option linter.unusedVariables false
set_option maxRecDepth 100000
set_option linter.unusedSimpArgs false

theorem ERow.drop {w : World} {b off : Nat} {l : List En} (h : ERow w b off l) (n : Nat) : ERow w b (off + n * 4) (l.drop n) := by
  refine ⟨h.1, fun i e hi => ?_⟩
  rw [List.getElem?_drop] at hi
  have := h.2 (n + i) e hi
  have e0 : off + (n + i) * 4 = off + n * 4 + i * 4 := by omega
  rw [e0] at this
  exact this
theorem ERow.take {w : World} {b off : Nat} {l : List En} (h : ERow w b off l) (n : Nat) : ERow w b off (l.take n) := by
  refine ⟨h.1, fun i e hi => ?_⟩
  rw [List.getElem?_take] at hi
  split at hi
  · exact h.2 i e hi
  · cases hi
theorem IsE.take {w : World} {a : Option Addr} {l : List En} (h : IsE w a l) (n : Nat) : IsE w a (l.take n) := fun hne => by
  have : l ≠ [] := by rintro rfl; simp at hne
  obtain ⟨b, off, e, hr⟩ := h this
  exact ⟨b, off, e, ERow.take hr n⟩
/-- what is left of a list behind a place -/
theorem IsE.rest {w : World} {b off c M : Nat} {l : List En} (h : IsE w (some ⟨b, off, none⟩) l) (hc : l.length ≤ c) : IsE w (if c = M then some ⟨b, off, none⟩ else some ⟨b, off + M * 4, none⟩) (l.drop M) := fun hne => by
  have h1 : M < l.length := by
    rcases Nat.lt_or_ge M l.length with h | h
    · exact h
    · exact absurd (List.drop_eq_nil_of_le h) hne
  obtain ⟨b', off', e, hr⟩ := h (by rintro rfl; simp at h1)
  simp only [Option.some.injEq, Addr.mk.injEq] at e
  obtain ⟨rfl, rfl, _⟩ := e
  rw [if_neg (by omega)]
  exact ⟨b, off + M * 4, rfl, ERow.drop hr M⟩
theorem IsI.rest {w : World} {b off c M : Nat} {l : List Int} (h : IsI w (some ⟨b, off, none⟩) l) (hc : l.length ≤ c) : IsI w (if c = M then some ⟨b, off, none⟩ else some ⟨b, off + M, none⟩) (l.drop M) := fun hne => by
  have h1 : M < l.length := by
    rcases Nat.lt_or_ge M l.length with h | h
    · exact h
    · exact absurd (List.drop_eq_nil_of_le h) hne
  obtain ⟨b', off', e, hr⟩ := h (by rintro rfl; simp at h1)
  simp only [Option.some.injEq, Addr.mk.injEq] at e
  obtain ⟨rfl, rfl, _⟩ := e
  rw [if_neg (by omega)]
  exact ⟨b, off + M, rfl, hr.drop M⟩

theorem infoI5 : (Try.prog.info? 3).map (fun i => (i.zero, i.size, i.bytes)) = some (some (.int .i64 0), 1, 8) := by kernel_rfl
theorem undI5 : Try.prog.underlying 26 = some (.slice 3) := by kernel_rfl
theorem undB5 : Try.prog.underlying 22 = some (.slice 5) := by kernel_rfl
theorem refLen_any (w : World) (R : Nat) (ds : List Nat) (es : List En) (hs : List Int) (bs : List Nat) (h : Rl w R ds es hs bs) :
    Calls Try.prog 43 #[.pointer (some ⟨R, 0, none⟩)] w fun e w' => e = .returned (.int .i64 (es.length : Int)) ∧ w' = w := by
  obtain ⟨a, c, e1, _⟩ := h.ent
  clear h
  go_enter Try.func43, Try.ntmps43
  go_wp2
  go_ret
  exact ⟨rfl, rfl⟩
theorem zeroT_below {w w' : World} {T' : Nat → Nat} {t : Nat} (ht : t ≠ 0) (h : Goes (· = t) (fun _ => 0) w T' w') : Below w.heap.size w w' := ⟨h.os, h.tape, h.output, h.size, fun b hb => h.block b hb (fun e => ht e.symm)⟩
set_option maxHeartbeats 1000000 in
theorem refTowers_any (w : World) (R : Nat) (ds : List Nat) (es : List En) (hs : List Int) (bs : List Nat) (h : Rl w R ds es hs bs) (hl : es.length ≤ 2932031007402) :
    Calls Try.prog 45 #[.pointer (some ⟨R, 0, none⟩)] w fun e w' => ∃ a c, e = .returned (.slice a hs.length c) ∧ IsI w' a hs ∧ Below w.heap.size w w' := by
  obtain ⟨i0, hi0, hz0, hz1, hz2⟩ := info_parts infoI5
  obtain ⟨a, c, e1, e2, e3, e4, _⟩ := h.hig
  have hle := h.len
  have HE : Hid (IsI w a hs ∧ (a = none → c = 0) ∧ 0 + hs.length ≤ 2932031007402) := ⟨e2, e4, by omega⟩
  clear h e2 e4 e3 hle
  go_enter Try.func45, Try.ntmps45
  go_wp2_with (at_builtin; go_loud (refine wpList_appL2 w (by rfl) (.const (.slice none 0 0)) (.tmp 6) 26 (by rfl) i0 undI5 hi0 hz0 hz1 hz2 9 (fun _ => 0) (.slice none 0 0) [] (by rfl) (OwnL.nil _ _ _) a hs.length c hs (by rfl) rfl HE.out.2.1 HE.out.1 HE.out.2.2 ?_; intro a7 c7 T7 w7 hown7 hgo7 hat7; have HF : Hid (IsI w7 a7 hs ∧ Below w.heap.size w w7) := (by rw [List.nil_append] at hown7; exact ⟨hown7.isI.1, zeroT_below (by omega) hgo7⟩); clear hown7 hgo7 hat7; rw [List.length_nil, Nat.zero_add]))
  go_ret
  exact ⟨_, _, rfl, HF.out⟩

/-- new memory with these entries -/
def FromIs (w w' : World) (a : Option Addr) (c n : Nat) (l : List En) : Prop := IsE w' a l ∧ n ≤ c ∧ (a = none → c = 0) ∧ Below w.heap.size w w'
/-- what place's answer cuts off -/
theorem drop_len {es : List En} {N M : Nat} (h : es.length = N) : N - M = (es.drop M).length := by rw [List.length_drop, h]
set_option maxHeartbeats 2000000 in
theorem refFrom_any (w : World) (R : Nat) (ds : List Nat) (es : List En) (hs : List Int) (bs : List Nat) (h : Rl w R ds es hs bs) (hl : es.length ≤ 2932031007402) (k : ByteArray) (s : Int) :
    Calls Try.prog 49 #[.pointer (some ⟨R, 0, none⟩), .string k, .int .u64 s] w fun e w' => ∃ a c, e = .returned (.slice a (es.length - plc k s es) c) ∧ FromIs w w' a c (es.length - plc k s es) (es.drop (plc k s es)) := by
  obtain ⟨i0, hi0, hz0, hz1, hz2⟩ := info_parts infoE
  have HPL : Hid (∀ W, Below w.heap.size w W → Calls Try.prog 55 #[.pointer (some ⟨R, 0, none⟩), .string k, .int .u64 s] W fun e w' => e = .returned (.int .i64 (plc k s es : Int)) ∧ ∃ n, w' = W.drewN n) := fun W hW => place_any W R ds es hs bs (h.below hW) (by omega) k s
  obtain ⟨a, c, e1, e2, e3, e4, _, e5⟩ := h.ent
  have hpl := plc_le k s es
  obtain ⟨N, hN⟩ : ∃ N, es.length = N := ⟨_, rfl⟩
  obtain ⟨M, hM⟩ : ∃ M, plc k s es = M := ⟨_, rfl⟩
  rw [hN, hM] at hpl
  rw [hN] at e1 e3 hl ⊢
  rw [hM] at HPL ⊢
  have HN : Hid (es.length = N) := hN
  have HE : Hid (IsE w a es ∧ (a = none → c = 0)) := ⟨e2, e4⟩
  clear h hM hN
  have q1 : (M : Int) ≤ (N : Int) := by omega
  have q2 : (N : Int) ≤ (c : Int) := by omega
  cases a with
  | none =>
    obtain rfl : c = 0 := e4 rfl
    obtain rfl : N = 0 := by omega
    obtain rfl : M = 0 := by omega
    have hes : es = [] := List.length_eq_zero_iff.1 HN.out
    subst hes
    clear e2 e4 hpl HE HN hl
    have HE1 : Hid (w.cell? ⟨R, 0, none⟩ = some (.slice none 0 0)) := e1
    go_enter Try.func49, Try.ntmps49
    go_wp2
    go_region_law (first
      | (go_simp; go_at_call 55; go_loud (refine (HPL.out _ (Below.refl _ _).drew).mono ?_; rintro e w2 ⟨rfl, n2, hw2⟩; have hb2 : Below w.heap.size w w2 := (by rw [hw2]; exact below_drewN (Below.refl _ _).drew _); have HB2 : Hid (Below w.heap.size w w2) := hb2; have e2 : w2.cell? ⟨R, 0, none⟩ = some (.slice none 0 0) := (hb2.cell (World.block_lt_of_cell? w _ HE1.out)).trans HE1.out; clear hw2 hb2))
      | (go_loud (refine step_appE w2 (by rfl) (.const (.slice none 0 0)) (.tmp 15) 64 (by rfl) i0 undE5 hi0 hz0 hz1 hz2 9 (fun _ => 0) (.slice none 0 0) [] (by rfl) (OwnE.empty _ _ _) none 0 0 [] (by rfl) rfl (fun _ => rfl) (IsE.nil _ _) (by simp) ?_; intro a7 c7 T7 w7 hown7 hgo7 hat7; have HF : Hid (FromIs w w7 a7 c7 0 []) := ⟨IsE.nil _ _, Nat.zero_le _, hown7.isE.2.2.1, keepB (zeroT_below (by omega) hgo7) HB2.out⟩; clear hown7 hgo7 hat7)))
    all_goals (
      go_wp2
      all_goals (
        go_ret
        first | exact ⟨_, _, rfl, HF.out⟩ | exact ⟨_, ⟨_, rfl⟩, HF.out⟩))
  | some ad =>
    obtain ⟨g, _, rfl⟩ := e5 ad rfl
    have HEX : Hid (∀ W, Below w.heap.size w W → IsE W (if c = M then some ⟨g, 0, none⟩ else some ⟨g, M * 4, none⟩) (es.drop M)) := fun W hW => by
      have := IsE.rest (M := M) (HE.out.1.below hW) (c := c) (by rw [HN.out]; exact e3)
      rw [Nat.zero_add] at this
      exact this
    have HLE : Hid (N - M = (es.drop M).length ∧ ([] : List En).length + (es.drop M).length ≤ 2932031007402) := ⟨by rw [List.length_drop, HN.out], by rw [List.length_drop, HN.out, List.length_nil]; omega⟩
    have HZN : Hid ((if c = M then some (⟨g, 0, none⟩ : Addr) else some ⟨g, M * 4, none⟩) = none → c - M = 0) := fun e => by split at e <;> cases e
    clear e2 e4 e5 hl
    have HE1 : Hid (w.cell? ⟨R, 0, none⟩ = some (.slice (some ⟨g, 0, none⟩) N c)) := e1
    go_enter Try.func49, Try.ntmps49
    go_wp2
    go_region_law (first
      | (go_simp; go_at_call 55; go_loud (refine (HPL.out _ (Below.refl _ _).drew).mono ?_; rintro e w2 ⟨rfl, n2, hw2⟩; have hb2 : Below w.heap.size w w2 := (by rw [hw2]; exact below_drewN (Below.refl _ _).drew _); have HB2 : Hid (Below w.heap.size w w2) := hb2; have e2 : w2.cell? ⟨R, 0, none⟩ = some (.slice (some ⟨g, 0, none⟩) N c) := (hb2.cell (World.block_lt_of_cell? w _ HE1.out)).trans HE1.out; clear hw2 hb2))
      | (go_loud (refine step_appE w2 (by rfl) (.const (.slice none 0 0)) (.tmp 15) 64 (by rfl) i0 undE5 hi0 hz0 hz1 hz2 9 (fun _ => 0) (.slice none 0 0) [] (by rfl) (OwnE.empty _ _ _) (if c = M then some ⟨g, 0, none⟩ else some ⟨g, M * 4, none⟩) (N - M) (c - M) (es.drop M) (by simp [Act.eval, Act.put]) HLE.out.1 HZN.out (HEX.out _ HB2.out) HLE.out.2 ?_; intro a7 c7 T7 w7 hown7 hgo7 hat7; have HF : Hid (FromIs w w7 a7 c7 (N - M) (es.drop M)) := ⟨(by rw [List.nil_append] at hown7; exact hown7.isE.1), (by have := hown7.isE.2.2.2; rw [List.length_nil, Nat.zero_add, ← HLE.out.1] at this; exact this), hown7.isE.2.2.1, keepB (zeroT_below (by omega) hgo7) HB2.out⟩; clear hown7 hgo7 hat7; rw [List.length_nil, Nat.zero_add, ← HLE.out.1])))
    all_goals (
      go_wp2
      all_goals (
        go_ret
        first | exact ⟨_, _, rfl, HF.out⟩ | exact ⟨_, ⟨_, rfl⟩, HF.out⟩))

def refSeekV (es : List En) (M : Nat) : Value := if M < es.length then .tuple #[.agg #[.string (es.getD M ez).1, .int .u64 (es.getD M ez).2.1, .bool (es.getD M ez).2.2.1, .string (es.getD M ez).2.2.2], .bool true] else .tuple #[.agg #[.string ⟨#[]⟩, .int .u64 0, .bool false, .string ⟨#[]⟩], .bool false]
set_option maxHeartbeats 1000000 in
theorem refSeek_any (w : World) (R : Nat) (ds : List Nat) (es : List En) (hs : List Int) (bs : List Nat) (h : Rl w R ds es hs bs) (hl : es.length ≤ 2932031007402) (k : ByteArray) (s : Int) :
    Calls Try.prog 41 #[.pointer (some ⟨R, 0, none⟩), .string k, .int .u64 s] w fun e w' => e = .returned (refSeekV es (plc k s es)) ∧ Below w.heap.size w w' := by
  obtain ⟨M, hM⟩ : ∃ M, plc k s es = M := ⟨_, rfl⟩
  have hb1 : Below w.heap.size w (w.alloc (.cells #[.string ⟨#[]⟩, .int .u64 0, .bool false, .string ⟨#[]⟩] 53)) := (Below.refl _ _).alloc (Nat.le_refl _) _
  have g1 : (w.alloc (.cells #[.string ⟨#[]⟩, .int .u64 0, .bool false, .string ⟨#[]⟩] 53)).heap[w.heap.size]? = some (.cells #[.string ⟨#[]⟩, .int .u64 0, .bool false, .string ⟨#[]⟩] 53) := World.alloc_heap_new _ _
  rw [hM]
  have HM : Hid (plc k s es = M) := hM
  have HR : Hid (Rl w R ds es hs bs) := h
  clear h hM
  go_enter Try.func41, Try.ntmps41
  go_wp2_with fail
  generalize w.alloc (.cells #[.string ⟨#[]⟩, .int .u64 0, .bool false, .string ⟨#[]⟩] 53) = W1 at *
  refine (place_any W1 R ds es hs bs (HR.out.below hb1) (by omega) k s).mono ?_
  rintro e w2 ⟨rfl, n2, hw2⟩
  have hb12 : Below W1.heap.size W1 w2 := by rw [hw2]; exact below_drewN (Below.refl _ _) _
  have hb2 : Below w.heap.size w w2 := keepB hb12 hb1
  have hlt1 : w.heap.size < W1.heap.size := (Array.getElem?_eq_some_iff.1 g1).1
  have g2 := (hb12.block _ hlt1).trans g1
  obtain ⟨a, c, e1, e2, _⟩ := (HR.out.below hb2).ent
  have c0 : w2.cell? ⟨w.heap.size, 0, none⟩ = some (.string ⟨#[]⟩) := by rw [cell_of_obj g2]; rfl
  have c1 : w2.cell? ⟨w.heap.size, 1, none⟩ = some (.int .u64 0) := by rw [cell_of_obj g2]; rfl
  have c2 : w2.cell? ⟨w.heap.size, 2, none⟩ = some (.bool false) := by rw [cell_of_obj g2]; rfl
  have c3 : w2.cell? ⟨w.heap.size, 3, none⟩ = some (.string ⟨#[]⟩) := by rw [cell_of_obj g2]; rfl
  have fz : ∀ j, w2.frozen? ⟨w.heap.size, j, none⟩ = false := fun j => froz_of_obj g2
  have HB2 : Hid (Below w.heap.size w w2) := hb2
  rw [HM.out]
  clear hw2 hb12 hb2 hb1 g1 g2
  generalize hBE : w.heap.size = B at *
  have HBE : Hid (w.heap.size = B) := hBE
  clear hBE
  by_cases hlt : M < es.length
  · obtain ⟨b, o, rfl, _, x0, x1, x2, x3⟩ := SkipOrder.rd e2 hlt
    have HV : Hid (refSeekV es M = .tuple #[.agg #[.string (es.getD M ez).1, .int .u64 (es.getD M ez).2.1, .bool (es.getD M ez).2.2.1, .string (es.getD M ez).2.2.2], .bool true]) := by
      show refSeekV es M = _
      unfold refSeekV; rw [if_pos hlt]
    have q1 : (M : Int) < (es.length : Int) := by omega
    generalize es.getD M ez = y at *
    obtain ⟨yk, ys, yd, yv⟩ := y
    dsimp only at x0 x1 x2 x3 HV
    obtain ⟨z0, z1, z2, z3⟩ := set4_cells (v0 := .string yk) (v1 := .int .u64 ys) (v2 := .bool yd) (v3 := .string yv) ⟨c0, c1, c2, c3⟩
    have HB4 : Hid (Below B w ((((w2.setCell ⟨B, 0, none⟩ (.string yk)).setCell ⟨B, 1, none⟩ (.int .u64 ys)).setCell ⟨B, 2, none⟩ (.bool yd)).setCell ⟨B, 3, none⟩ (.string yv))) := (((HB2.out.setCell (p := ⟨B, 0, none⟩) (Nat.le_refl _) _).setCell (p := ⟨B, 1, none⟩) (Nat.le_refl _) _).setCell (p := ⟨B, 2, none⟩) (Nat.le_refl _) _).setCell (p := ⟨B, 3, none⟩) (Nat.le_refl _) _
    go_wp2
    generalize (((w2.setCell ⟨B, 0, none⟩ (.string yk)).setCell ⟨B, 1, none⟩ (.int .u64 ys)).setCell ⟨B, 2, none⟩ (.bool yd)).setCell ⟨B, 3, none⟩ (.string yv) = W4 at *
    refine ⟨rfl, refSeekV es M, ?_, rfl, by rw [HBE.out]; exact HB4.out⟩
    rw [HV.out]
    simp [results, Try.results41, go_sem, z0, z1, z2, z3]
  · have HV : Hid (refSeekV es M = .tuple #[.agg #[.string ⟨#[]⟩, .int .u64 0, .bool false, .string ⟨#[]⟩], .bool false]) := by
      show refSeekV es M = _
      unfold refSeekV; rw [if_neg hlt]
    obtain ⟨z0, z1, z2, z3⟩ := set4_cells (v0 := .string ⟨#[]⟩) (v1 := .int .u64 0) (v2 := .bool false) (v3 := .string ⟨#[]⟩) ⟨c0, c1, c2, c3⟩
    have HB4 : Hid (Below B w ((((w2.setCell ⟨B, 0, none⟩ (.string ⟨#[]⟩)).setCell ⟨B, 1, none⟩ (.int .u64 0)).setCell ⟨B, 2, none⟩ (.bool false)).setCell ⟨B, 3, none⟩ (.string ⟨#[]⟩))) := (((HB2.out.setCell (p := ⟨B, 0, none⟩) (Nat.le_refl _) _).setCell (p := ⟨B, 1, none⟩) (Nat.le_refl _) _).setCell (p := ⟨B, 2, none⟩) (Nat.le_refl _) _).setCell (p := ⟨B, 3, none⟩) (Nat.le_refl _) _
    go_wp2
    generalize (((w2.setCell ⟨B, 0, none⟩ (.string ⟨#[]⟩)).setCell ⟨B, 1, none⟩ (.int .u64 0)).setCell ⟨B, 2, none⟩ (.bool false)).setCell ⟨B, 3, none⟩ (.string ⟨#[]⟩) = W4 at *
    refine ⟨rfl, refSeekV es M, ?_, rfl, by rw [HBE.out]; exact HB4.out⟩
    rw [HV.out]
    simp [results, Try.results41, go_sem, z0, z1, z2, z3]

theorem rl_new {w w1 : World} {a1 : Option Addr} {c1 : Nat} {ds : List Nat} (hb : Below w.heap.size w w1) (hB : IsB w1 a1 ds) (ha : ∀ ad, a1 = some ad → w.heap.size ≤ ad.block ∧ ad.block < w1.heap.size) :
    Rl (w1.alloc (.cells #[.slice none 0 0, .slice none 0 0, .slice a1 ds.length c1, .int .i64 0] 87)) w1.heap.size ds [] [] (a1.toList.map Addr.block) ∧ Below w.heap.size w (w1.alloc (.cells #[.slice none 0 0, .slice none 0 0, .slice a1 ds.length c1, .int .i64 0] 87)) := by
  generalize ho : (Obj.cells #[.slice none 0 0, .slice none 0 0, .slice a1 ds.length c1, .int .i64 0] 87) = o
  have g1 : (w1.alloc o).heap[w1.heap.size]? = some o := World.alloc_heap_new w1 o
  have hb2 : Below w1.heap.size w1 (w1.alloc o) := (Below.refl _ _).alloc (Nat.le_refl _) _
  have hs2 : (w1.alloc o).heap.size = w1.heap.size + 1 := by simp
  generalize w1.alloc o = W at *
  subst ho
  refine ⟨⟨by omega, ⟨none, 0, by rw [cell_of_obj g1]; rfl, IsE.nil _ _, Nat.le_refl _, fun _ => rfl, fun _ => rfl, fun ad e => by cases e⟩, ⟨none, 0, by rw [cell_of_obj g1]; rfl, IsI.nil _ _, Nat.le_refl _, fun _ => rfl, fun _ => rfl, fun ad e => by cases e⟩, ⟨a1, c1, by rw [cell_of_obj g1]; rfl, hB.below hb2, fun ad e => by rw [e]; simp⟩, by rw [cell_of_obj g1]; rfl, fun j => froz_of_obj g1, rfl, fun b hb' => ?_⟩, keepB hb2 hb⟩
  cases a1 with
  | none => simp at hb'
  | some ad =>
    simp at hb'
    have := ha ad rfl
    omega
set_option maxHeartbeats 1000000 in
theorem refNew_any (w : World) (a : Option Addr) (n c : Nat) (ds : List Nat) (hi : IsB w a ds) (hn : n = ds.length) (hnil : a = none → c = 0) (h47 : ds.length ≤ 140737488355328) :
    Calls Try.prog 9 #[.slice a n c] w fun e w' => ∃ R bs, e = .returned (.pointer (some ⟨R, 0, none⟩)) ∧ w.heap.size ≤ R ∧ (∀ b ∈ bs, w.heap.size ≤ b) ∧ Rl w' R ds [] [] bs ∧ Below w.heap.size w w' := by
  obtain ⟨i0, hi0, hz0, hz1, hz2⟩ := info_parts infoB
  go_enter Try.func9, Try.ntmps9
  go_wp2_with (at_builtin; go_loud (refine wpList_appB (by rfl) (.const (.slice none 0 0)) (.tmp 3) 22 (by rfl) w.heap.size 5 i0 Try.underlying22 hi0 hz0 hz1 hz2 (.slice none 0 0) [] 0 (by rfl) (World.ownsRow_nil _ _ _ _) a n c ds (by rfl) hn hnil hi (by omega) (Nat.le_refl _) ?_; intro v1 w1 hown hgr hv1; rw [List.nil_append] at hown; obtain ⟨a1, c1, rfl, h1, h2⟩ := draws_of hown hi.2; have HSL : Hid _ := rl_new (c1 := c1) (w := w) (w1 := w1) ⟨hgr.os, hgr.tape, hgr.output, hgr.size, fun b hb => hgr.block b hb (by simp [Value.ownBlock])⟩ h1 h2; have HBB : Hid (∀ b ∈ a1.toList.map Addr.block, w.heap.size ≤ b) := (fun b hb => by cases a1 with | none => simp at hb | some ad => simp at hb; rw [hb]; exact (h2 ad rfl).1); have hsz := hgr.size; clear hown hgr hv1 h1 h2))
  go_ret
  exact ⟨_, _, rfl, hsz, HBB.out, HSL.out⟩
end Sk
end Go.Proofs.Ytfomnkkpiflokaa
