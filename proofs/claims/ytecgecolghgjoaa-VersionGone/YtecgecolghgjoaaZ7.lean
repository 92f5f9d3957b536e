import Derived.Test.YtecgecolghgjoaaZ6
namespace Go.Proofs.Ytecgecolghgjoaa
namespace Vr
open Go.Shelf Go.RowKit Go.Lib Go.Sort Go.Maps Go.ChangeMaps Go.MapKept Laws Irw Crw
set_option linter.unusedVariables false
set_option linter.unusedSimpArgs false
set_option maxRecDepth 20000
theorem nums_nil' (n : Nat) : nums (List.replicate n []) = [] := List.eq_nil_of_length_eq_zero (nums_nil n)
theorem Goes.newTag {T : Nat → Nat} {w : World} {o : Obj} (t : Nat) : Goes (fun _ => False) T w (upd T w.heap.size t) (w.alloc o) := by
  have hb : RowKit.Below w.heap.size w (w.alloc o) := (Below.refl _ _).alloc (Nat.le_refl _) o
  refine ⟨hb.os, hb.tape, hb.output, hb.size, fun b hb' _ => hb.block b hb', fun b hb' _ => upd_other T t (by omega), fun b hb' h0 => ?_⟩
  rw [upd_other T t (by have : (w.alloc o).heap.size = w.heap.size + 1 := by simp
                        omega)]
  exact h0
theorem first_G {w0 w : World} {T : Nat → Nat} {sb vb mb n : Nat} (h : SetK w0 T w sb vb mb (List.replicate n []) [] 0) (t : TypeId) :
    GS true w0 (upd T w.heap.size 20) (w.alloc (.cells #[.slice none 0 0, .slice none 0 0, .slice none 0 0] t)) sb vb mb w.heap.size (List.replicate n []) [] [] [] [] 0 0 := by
  have hz := Zb.new w #[.slice none 0 0, .slice none 0 0, .slice none 0 0] t
  refine ⟨h.goes (Goes.newTag 20) (fun z => z) (fun z => z) (fun z => z) (fun z => z), fun p hp => (by cases hp), Pk.first _ _, ⟨fun x hx => ?_, fun x hx => (by cases hx), fun y hy => (by cases hy)⟩, ⟨upd_same _ _ _, nS, nS, nS, hz, OwnK.empty _ _ _, OwnK.empty _ _ _, PB.own (OwnK.empty _ _ _)⟩, Nat.zero_le _, Nat.zero_le _, Nat.zero_le _, Nat.zero_le _⟩
  rcases mem_allN.1 hx with h1 | ⟨p, hp, _⟩
  · rw [nums_nil'] at h1; cases h1
  · cases hp
theorem isV_drop {w : World} {g c : Nat} {B : List Nat} (m : Nat) (h : Ls kV w (some ⟨g, 0, none⟩, B.length, c) B) : IsK kV w (if c = m + 1 then some ⟨g, 0, none⟩ else some ⟨g, m + 1, none⟩) (B.drop (m + 1)) := by
  intro hne
  have hl : m + 1 < B.length := by
    rcases Nat.lt_or_ge (m + 1) B.length with h1 | h1
    · exact h1
    · exact absurd (List.drop_eq_nil_of_le h1) hne
  have hc := h.2.2.2.1
  change B.length ≤ c at hc
  rw [if_neg (by omega)]
  have hb : B ≠ [] := fun e => by rw [e] at hl; simp at hl
  obtain ⟨b, off, e, hr⟩ := h.1 hb
  cases e
  refine ⟨g, m + 1, rfl, hr.1, fun i x hx j u hu => ?_⟩
  rw [List.getElem?_drop] at hx
  have := hr.2 _ x hx j u hu
  rw [show m + 1 + i * kV.size + j = 0 + (m + 1 + i) * kV.size + j by show m + 1 + i * 1 + j = 0 + (m + 1 + i) * 1 + j; omega]
  exact this
theorem isK_newV (w : World) (x : Nat) (t : TypeId) : IsK kV (w.alloc (.cells #[.pointer (some ⟨x, 0, none⟩)] t)) (some ⟨w.heap.size, 0, none⟩) [x] := by
  have h := Zb.new w #[.pointer (some ⟨x, 0, none⟩)] t
  refine IsK.of ⟨h.1, fun i e he j u hu => ?_⟩
  have hi : i = 0 := by
    have := (List.getElem?_eq_some_iff.1 he).1
    simp at this
    exact this
  subst hi
  simp at he
  subst he
  have := h.2.1 j u (by simpa [kV] using hu)
  simpa using this
theorem cell_alloc {w : World} {b j : Nat} {v : Value} (h : w.cell? ⟨b, j, none⟩ = some v) (hb : b < w.heap.size) (o : Obj) : (w.alloc o).cell? ⟨b, j, none⟩ = some v := (((Below.refl w.heap.size w).alloc (Nat.le_refl _) o).cell (p := ⟨b, j, none⟩) hb).trans h
theorem cell_svV {w : World} {b : Nat} {x y : Value} {s : Sv} (h : Zb w b [x, y, svV s]) : w.cell? ⟨b, 2, none⟩ = some (.slice s.1 s.2.1 s.2.2) := h.2.1 2 _ rfl
/-- a pin more -/
theorem GS.pinned {f : Bool} {w0 w w' : World} {T T' : Nat → Nat} {sb nb mb bb : Nat} {V : Lv} {P : List Pn} {I G : List Int} {B : List Nat} {k j : Nat} (h : GS f w0 T w sb nb mb bb V P I G B k j) (hk : k ≤ 300) (hs : SetK w0 T' w' sb nb mb V (pinL nb V P) k) (hq : QAt f T' w' bb I G (B ++ [nb])) : GM f w0 T' w' sb nb mb bb V (pinL nb V P) I G (B ++ [nb]) (k + 1) j (none, 0, 0) [] := by
  obtain ⟨u1, u2, u3⟩ := h.pk.pin
  have h1 := h.lb
  have h2 := h.lp
  have h3 := h.set.cnt
  exact ⟨hs.more (Nat.le_succ _), pinL_pins (Q := fun V => Good V ∧ NumOk V ∧ (nums V).length ≤ 2457600) ⟨h.set.good, h.set.num, by omega⟩ h.pins, u1, fun y hy => (by cases hy), by rw [List.append_nil]; exact h.bk.same u3, List.Pairwise.nil, Nat.zero_le _, ⟨IsK.nil _ _, rfl, fun _ => rfl, Nat.le_refl _, .inl rfl⟩, hq, Nat.le_trans h.li (Nat.mul_le_mul_right _ (Nat.le_succ _)), h.lg, by simp; omega, Nat.le_trans u2 (by omega)⟩
/-- the list of pins without the first one -/
theorem PB.tail {T : Nat → Nat} {w : World} {g off n c : Nat} {B : List Nat} (h : PB false T w (some ⟨g, off, none⟩, n, c) B) (h0 : 0 < B.length) : PB false T w (if c = 1 then some ⟨g, off, none⟩ else some ⟨g, off + 1, none⟩, n - 1, c - 1) (B.eraseIdx 0) := by
  obtain ⟨⟨⟨h1, h2, h3, h4, h5⟩, h6⟩, _⟩ := h
  change n = B.length at h2
  change B.length ≤ c at h4
  refine ⟨⟨⟨fun hne => ?_, ?_, ?_, ?_, .inl rfl⟩, fun b o e => ?_⟩, fun e => (by cases e)⟩
  · have hl : 1 < B.length := by
      rw [List.eraseIdx_zero] at hne
      match B, hne with
      | _ :: _ :: _, _ => simp
    obtain ⟨b, o, e, hr⟩ := h1 (fun e => by rw [e] at hl; simp at hl)
    cases e
    show ∃ b off', (if c = 1 then some (⟨g, off, none⟩ : Addr) else some ⟨g, off + 1, none⟩) = some ⟨b, off', none⟩ ∧ _
    rw [if_neg (by omega)]
    refine ⟨g, off + 1, rfl, hr.1, fun i x hx j u hu => ?_⟩
    rw [List.eraseIdx_zero, List.getElem?_tail] at hx
    have := hr.2 _ x hx j u hu
    rw [show off + 1 + i * kV.size + j = off + (i + 1) * kV.size + j by show off + 1 + i * 1 + j = off + (i + 1) * 1 + j; omega]
    exact this
  · show n - 1 = (B.eraseIdx 0).length
    rw [List.length_eraseIdx, if_pos h0, h2]
  · show (if c = 1 then some (⟨g, off, none⟩ : Addr) else some ⟨g, off + 1, none⟩) = none → _
    intro e
    split at e <;> cases e
  · show (B.eraseIdx 0).length ≤ c - 1
    rw [List.length_eraseIdx, if_pos h0]
    omega
  · change (if c = 1 then some (⟨g, off, none⟩ : Addr) else some ⟨g, off + 1, none⟩) = _ at e
    split at e
    · cases e; exact h6 g off rfl
    · cases e; exact h6 g off rfl
theorem PB.less {f : Bool} {T : Nat → Nat} {w : World} {s : Sv} {B : List Nat} (h : PB f T w s B) : PB false T w s B := ⟨h.1, fun e => (by cases e)⟩
theorem QAt.less {f : Bool} {T : Nat → Nat} {w : World} {bb : Nat} {I G : List Int} {B : List Nat} (h : QAt f T w bb I G B) : QAt false T w bb I G B := by
  obtain ⟨a, b, c, h1, h2, h3, h4⟩ := h.box
  exact ⟨h.tb, a, b, c, h1, h2, h3, h4.less⟩
theorem GS.less {f : Bool} {w0 w : World} {T : Nat → Nat} {sb nb mb bb : Nat} {V : Lv} {P : List Pn} {I G : List Int} {B : List Nat} {k j : Nat} (h : GS f w0 T w sb nb mb bb V P I G B k j) : GS false w0 T w sb nb mb bb V P I G B k j :=
  ⟨h.set, h.pins, h.pk, h.bk, h.q.less, h.li, h.lg, h.lb, h.lp⟩
/-- the first pin goes: what is told, and what is known at the end -/
theorem GS.first {f f' : Bool} {w0 w w' : World} {T T' : Nat → Nat} {sb nb mb bb : Nat} {V : Lv} {P : List Pn} {I G : List Int} {B : List Nat} {k j n b : Nat} (h : GS f w0 T w sb nb mb bb V P I G B k j) (hn : B[n]? = some b)
    (hs : SetK w0 T' w' sb nb mb V (unpL (some ⟨b, 0, none⟩) P) k) (hq : QAt f' T' w' bb I (G ++ unpR (some ⟨b, 0, none⟩) nb V P) (B.eraseIdx n)) : GS f' w0 T' w' sb nb mb bb V (unpL (some ⟨b, 0, none⟩) P) I (G ++ unpR (some ⟨b, 0, none⟩) nb V P) (B.eraseIdx n) k (j + 1) := by
  obtain ⟨u1, u2, u3⟩ := h.pk.unpin hn
  obtain ⟨v1, v2⟩ := u2 I G h.bk
  obtain ⟨r1, r2⟩ := u3 fun p hp => ⟨(h.pins p hp).1.nod, (h.pins p hp).2.2⟩
  have h1 := h.lg
  refine ⟨hs, fun p hp => ?_, u1, v2, hq, h.li, by rw [List.length_append]; omega, Nat.le_trans (List.length_eraseIdx_le _ _) h.lb, Nat.le_trans (unpL_len _ _) h.lp⟩
  obtain ⟨p', hp', _, e⟩ := mem_unpL hp
  rw [e]
  exact h.pins p' hp'
def slLen (x : Option Value) : Nat := match x with
  | some (.slice _ m _) => m
  | _ => 0
/-- what stands while the numbers of an edit are written down -/
structure InS (w0 : World) (T : Nat → Nat) (w : World) (sb nb mb bb ox : Nat) (V : Lv) (P : List Pn) (I I' G : List Int) (B : List Nat) (k i : Nat) (l : List Pi) (vs : List Value) (s : Sv) (r : List Int) : Prop where
  set : SetK w0 T w sb nb mb V P k
  q : QAt true T w bb I' G B
  mem : ∀ y, y ∈ I' ↔ y ∈ I ∨ ∃ p ∈ l.take i, ((p.t.no : Nat) : Int) = y
  len : I'.length ≤ I.length + i
  new : ∀ p ∈ l.take i, ((p.t.no : Nat) : Int) ∉ G
  z : Zb w ox vs
  tx : T ox = 0
  told : Lt kU 7 T w s r
theorem InS.step {w0 w : World} {T : Nat → Nat} {sb nb mb bb ox : Nat} {V : Lv} {P : List Pn} {I I' G : List Int} {B : List Nat} {k i : Nat} {l : List Pi} {vs : List Value} {s : Sv} {r : List Int} {p : Pi} (h : InS w0 T w sb nb mb bb ox V P I I' G B k i l vs s r) (hp : l[i]? = some p) (hG : ((p.t.no : Nat) : Int) ∉ G) (hI : ((p.t.no : Nat) : Int) ∈ I') : InS w0 T w sb nb mb bb ox V P I I' G B k (i + 1) l vs s r := by
  refine ⟨h.set, h.q, fun y => ?_, by have := h.len; omega, fun x hx => ?_, h.z, h.tx, h.told⟩
  · rw [h.mem, List.take_add_one, hp]
    constructor
    · rintro (h1 | ⟨x, hx, e⟩)
      · exact .inl h1
      · exact .inr ⟨x, List.mem_append_left _ hx, e⟩
    · rintro (h1 | ⟨x, hx, e⟩)
      · exact .inl h1
      · rcases List.mem_append.1 hx with hx | hx
        · exact .inr ⟨x, hx, e⟩
        · simp at hx; subst hx; subst e
          exact (h.mem _).1 hI
  · rw [List.take_add_one, hp] at hx
    rcases List.mem_append.1 hx with hx | hx
    · exact h.new x hx
    · simp at hx; subst hx; exact hG
theorem InS.put {w0 w w' : World} {T T' : Nat → Nat} {sb nb mb bb ox : Nat} {V : Lv} {P : List Pn} {I I' G : List Int} {B : List Nat} {k i : Nat} {l : List Pi} {vs : List Value} {s : Sv} {r : List Int} {p : Pi} (h : InS w0 T w sb nb mb bb ox V P I I' G B k i l vs s r) (hp : l[i]? = some p) (hG : ((p.t.no : Nat) : Int) ∉ G) (hg : Goes (fun t => t = 20 ∨ t = 21) T w T' w') (hq : QAt true T' w' bb (I' ++ [((p.t.no : Nat) : Int)]) G B) : InS w0 T' w' sb nb mb bb ox V P I (I' ++ [((p.t.no : Nat) : Int)]) G B k (i + 1) l vs s r := by
  refine ⟨h.set.goes hg (by decide) (by decide) (by decide) (by decide), hq, fun y => ?_, by have := h.len; simp; omega, fun x hx => ?_, h.z.goes hg (by rw [h.tx]; decide), (hg.tag ox h.z.1 (by rw [h.tx]; decide)).trans h.tx, h.told.goes hg (by decide)⟩
  · rw [List.mem_append, h.mem, List.take_add_one, hp]
    constructor
    · rintro ((h1 | ⟨x, hx, e⟩) | h1)
      · exact .inl h1
      · exact .inr ⟨x, List.mem_append_left _ hx, e⟩
      · simp at h1
        exact .inr ⟨p, List.mem_append_right _ (by simp), h1.symm⟩
    · rintro (h1 | ⟨x, hx, e⟩)
      · exact .inl (.inl h1)
      · rcases List.mem_append.1 hx with hx | hx
        · exact .inl (.inr ⟨x, hx, e⟩)
        · simp at hx; subst hx; subst e
          exact .inr (by simp)
  · rw [List.take_add_one, hp] at hx
    rcases List.mem_append.1 hx with hx | hx
    · exact h.new x hx
    · simp at hx; subst hx; exact hG
/-- all of them -/
theorem InS.mid {w0 w : World} {T : Nat → Nat} {sb nb cb mb bb ox : Nat} {V V0 : Lv} {P : List Pn} {I I' G : List Int} {B : List Nat} {O : List Pc} {k : Nat} {l : List Pi} {vs : List Value} {s : Sv} {w9 : World} {T9 : Nat → Nat} {j : Nat} (h0 : GS true w0 T9 w9 sb cb mb bb V0 P I G B k j) (hne : cb ≠ nb) (hnp : ∀ p ∈ P, p.vb ≠ nb) (he : edit2 V0 O l = .ok V) (hl : l.length ≤ 8192)
    (h : InS w0 T w sb nb mb bb ox V P I I' G B (k + 1) l.length l vs s (goneL nb V P cb V0)) (hk : k < 300) : GM true w0 T w sb nb mb bb V P I' G B (k + 1) j s (goneL nb V P cb V0) := by
  obtain ⟨u1, u2⟩ := h0.pk.apply (I' := I') hne he h0.bk (fun y => by rw [h.mem, List.take_length]) (fun p hp => h.new p (by rw [List.take_length]; exact hp))
  have h1 := h.len
  have h2 := h0.li
  have h3 := h0.set.cnt
  exact ⟨h.set, h0.pins, h0.pk.next hnp, u1, u2, gone_rise h0.set.good.nod, Nat.le_trans (gone_len _ _ _ _ _) (by omega), h.told.1, h.q, by omega, h0.lg, Nat.le_succ_of_le h0.lb, Nat.le_succ_of_le h0.lp⟩
set_option maxHeartbeats 2000000 in
theorem versionGone_any (lv : Int) (a : Option Addr) (n c : Nat) (S : List Oq) (w : World) (hS : Scr w a S) (hn : S.length = n) (hmx : n ≤ Z48) :
    Calls Try.prog 3 #[.int .i64 lv, .slice a n c] w fun e w' => e = .returned (.bool true) ∧ RowKit.Below w.heap.size w w' := by
  unfold Z48 at hmx
  obtain ⟨m5, hx, h1, h5⟩ : ∃ m : Nat, min (max lv 1) 5 = (m : Int) ∧ 1 ≤ m ∧ m ≤ 5 := ⟨(min (max lv 1) 5).toNat, by omega, by omega, by omega⟩
  have HS : Hid (Scr w a S ∧ S.length = n) := ⟨hS, hn⟩
  clear hS hn
  by_cases hl : n ≤ 300
  · have q0 : ¬ (300 : Int) < (n : Int) := by omega
    have HKn : Hid (Calls Try.prog 5 #[] w fun e w' => e = .returned (.bool true) ∧ RowKit.Below w.heap.size w w') := known_any w
    have HN : Hid (∀ W, RowKit.Below w.heap.size w W → Calls Try.prog 6 #[.int .i64 lv] W fun e w' => ∃ sb vb mb T, e = .returned (.pointer (some ⟨sb, 0, none⟩)) ∧ SetK w T w' sb vb mb (List.replicate m5 []) [] 0) := fun W hW => (new2_any lv m5 W hx h1 h5).mono fun e w' hp => new_K m5 h1 hW hp
    clear hx h1 h5
    go_enter Try.func3, Try.ntmps3
    go_upto_region 5 with (go_at_call 5; go_loud (refine HKn.out.mono ?_; rintro e w1 ⟨rfl, hb1⟩; have HB1 : Hid (RowKit.Below w.heap.size w w1) := hb1; clear hb1))
    go_upto_region 6 with (go_at_call 6; go_loud (refine (HN.out _ HB1.out).mono ?_; rintro e w2 ⟨sb, vb, mb, T, rfl, hk⟩; have HX0 : Hid (SetK w T w2 sb vb mb (List.replicate m5 []) [] 0) := hk; clear hk))
    clear HN HKn HB1
    go_upto_region 7 with fail
    obtain ⟨W3, hW3⟩ : ∃ X, w2.alloc (Obj.cells #[.slice none 0 0, .slice none 0 0, .slice none 0 0] 30) = X := ⟨_, rfl⟩
    obtain ⟨bb, hbb⟩ : ∃ b, w2.heap.size = b := ⟨_, rfl⟩
    have HX : Hid (GS true w (upd T bb 20) W3 sb vb mb bb (List.replicate m5 []) [] [] [] [] 0 0) := by
      rw [← hW3, ← hbb]
      exact first_G HX0.out _
    rw [hW3, hbb]
    clear hW3 hbb HX0
    have CC : Hid (Calls Try.prog 7 #[.pointer (some ⟨sb, 0, none⟩)] W3 fun e w' => e = .returned (.pointer (some ⟨vb, 0, none⟩)) ∧ w' = W3) := currentP HX.out.set.set
    go_wp2_with (go_at_call 7; go_loud (refine CC.out.mono ?_; rintro e w99 ⟨rfl, hw99⟩; have hw98 := hw99.symm; clear hw99; subst hw98))
    clear CC
    go_loopw [7] (fun vi wr => ∃ (k : Nat) (T : Nat → Nat) (nb : Nat) (V : Lv) (P : List Pn) (I G : List Int) (B : List Nat), k ≤ n ∧ vi = .int .i64 (k : Int) ∧ Hid (GS true w T wr sb nb mb bb V P I G B k k)) (fun vi _ => n - (intOf vi).toNat)
    case atStart => exact ⟨0, _, vb, _, _, _, _, _, Nat.zero_le _, rfl, HX.out⟩
    case round =>
      clear HX
      obtain ⟨k, T, nb, V, P, I, G, B, hk, rfl, HX⟩ := hrel
      rename World => wr
      by_cases hlt : k < n
      · have q1 : (k : Int) < (n : Int) := by omega
        obtain ⟨q, hq⟩ : ∃ q, S[k]? = some q := ⟨_, List.getElem?_eq_getElem (by rw [HS.out.2]; exact hlt)⟩
        obtain ⟨b, off, e9, hr⟩ := HS.out.1.1 (by intro e; rw [e] at hq; simp at hq)
        subst e9
        obtain ⟨O, l, pts, hE⟩ := HS.out.1.2 q (List.mem_of_getElem? hq)
        have HST : Hid (∀ (j : Nat) u, (oqC q)[j]? = some u → wr.cell? ⟨b, off + k * 12 + j, none⟩ = some u) := fun j u hu => (HX.out.set.old.below.cell (p := ⟨b, off + k * 12 + j, none⟩) hr.1).trans (hr.2 k q hq j u hu)
        have HE : Hid (EdK w q O l pts) := hE
        have CSQ : Hid (∀ W, RowKit.Below w.heap.size w W → Calls Try.prog 8 #[.agg #[.int .u64 q.x, .int .u64 q.y, .int .u64 q.z, svV q.o, svV q.i, svV q.p]] W fun e w' => SmI O l pts W e w') := fun W hW => small_q (hE.below hW)
        have CAQ : Hid (∀ W, GS true w T W sb nb mb bb V P I G B k k → k < 300 → O.length + l.length + pts.length ≤ 8192 → Calls Try.prog 9 #[.pointer (some ⟨sb, 0, none⟩), .agg #[.int .u64 q.x, .int .u64 q.y, .int .u64 q.z, svV q.o, svV q.i, svV q.p]] W fun e w' => ApG w T W sb nb mb V P k O l e w') := fun W hW h3 hs => apply_G hW h3 hE hs
        have y0 := HST.out 0 _ rfl
        have y1 := HST.out 1 _ rfl
        have y2 := HST.out 2 _ rfl
        have y3 := HST.out 3 _ rfl
        have y4 := HST.out 4 _ rfl
        have y5 := HST.out 5 _ rfl
        have y6 := HST.out 6 _ rfl
        have y7 := HST.out 7 _ rfl
        have y8 := HST.out 8 _ rfl
        have y9 := HST.out 9 _ rfl
        have y10 := HST.out 10 _ rfl
        have y11 := HST.out 11 _ rfl
        clear hE hr hq HST
        obtain ⟨kd, qn, ql, fr, tx, x, y, z, ⟨oa, on, oc⟩, ⟨ia, inn, ic⟩, ⟨pa, pn, pc⟩, sec⟩ := q
        simp only [svV, Nat.add_zero] at CSQ CAQ y0 y1 y2 y3 y4 y5 y6 y7 y8 y9 y10 y11
        go_upto_region 13 with fail
        obtain ⟨W4, hW4⟩ : ∃ X, wr.alloc (Obj.cells #[.int .i64 kd, .int .i64 qn, .int .i64 ql, .string fr, .string tx, .int .u64 x, .int .u64 y, .int .u64 z, .slice oa on oc, .slice ia inn ic, .slice pa pn pc, .bool sec] 40) = X := ⟨_, rfl⟩
        obtain ⟨ox, hox⟩ : ∃ b, wr.heap.size = b := ⟨_, rfl⟩
        have H4 : Hid (GS true w T W4 sb nb mb bb V P I G B k k ∧ Zb W4 ox [.int .i64 kd, .int .i64 qn, .int .i64 ql, .string fr, .string tx, .int .u64 x, .int .u64 y, .int .u64 z, .slice oa on oc, .slice ia inn ic, .slice pa pn pc, .bool sec] ∧ T ox = 0) := by
          rw [← hW4, ← hox]
          exact ⟨HX.out.below ((Below.refl _ _).alloc (Nat.le_refl _) _), Zb.new _ _ _, HX.out.set.old.zero _ (.inr (Nat.le_refl _))⟩
        rw [hW4, hox]
        clear hW4 hox y0 y1 y2 y3 y4 y5 y6 y7 y8 y9 y10 y11 HX
        have CS : Hid (Calls Try.prog 8 #[.agg #[.int .u64 x, .int .u64 y, .int .u64 z, .slice oa on oc, .slice ia inn ic, .slice pa pn pc]] W4 fun e w' => SmI O l pts W4 e w') := CSQ.out _ H4.out.1.set.old.below
        have z5 := H4.out.2.1.2.1 5 _ rfl
        have z6 := H4.out.2.1.2.1 6 _ rfl
        have z7 := H4.out.2.1.2.1 7 _ rfl
        have z8 := H4.out.2.1.2.1 8 _ rfl
        have z9 := H4.out.2.1.2.1 9 _ rfl
        have z10 := H4.out.2.1.2.1 10 _ rfl
        go_upto_if 44 with (go_at_call 8; go_loud (refine CS.out.mono ?_; rintro e w5 ⟨bo, rfl, hbo, hb5⟩; have H5 : Hid ((bo = true → O.length + l.length + pts.length ≤ 8192) ∧ GS true w T w5 sb nb mb bb V P I G B k k ∧ Zb w5 ox [.int .i64 kd, .int .i64 qn, .int .i64 ql, .string fr, .string tx, .int .u64 x, .int .u64 y, .int .u64 z, .slice oa on oc, .slice ia inn ic, .slice pa pn pc, .bool sec]) := ⟨hbo, H4.out.1.below hb5, H4.out.2.1.below hb5⟩; clear hbo hb5))
        clear CS z5 z6 z7 z8 z9 z10
        cases bo with
        | false =>
          go_wp2_with fail
          go_ret
          exact ⟨rfl, H5.out.2.1.set.old.below⟩
        | true =>
          have HSM : Hid (O.length + l.length + pts.length ≤ 8192) := H5.out.1 rfl
          have HX : Hid (GS true w T w5 sb nb mb bb V P I G B k k ∧ Zb w5 ox [.int .i64 kd, .int .i64 qn, .int .i64 ql, .string fr, .string tx, .int .u64 x, .int .u64 y, .int .u64 z, .slice oa on oc, .slice ia inn ic, .slice pa pn pc, .bool sec] ∧ T ox = 0) := ⟨H5.out.2.1, H5.out.2.2, H4.out.2.2⟩
          clear H4 H5
          have hk3 : k < 300 := by omega
          have z0 := HX.out.2.1.2.1 0 _ rfl
          by_cases hkd : kd = 1
          · subst hkd
            have CA : Hid (Calls Try.prog 9 #[.pointer (some ⟨sb, 0, none⟩), .agg #[.int .u64 x, .int .u64 y, .int .u64 z, .slice oa on oc, .slice ia inn ic, .slice pa pn pc]] w5 fun e w' => ApG w T w5 sb nb mb V P k O l e w') := CAQ.out _ HX.out.1 hk3 HSM.out
            have hil : inn = l.length := HE.out.li.2.1
            have HIL : Hid (l.length ≤ 8192) := by have := HSM.out; exact (show l.length ≤ 8192 by omega)
            subst hil
            have z5 := HX.out.2.1.2.1 5 _ rfl
            have z6 := HX.out.2.1.2.1 6 _ rfl
            have z7 := HX.out.2.1.2.1 7 _ rfl
            have z8 := HX.out.2.1.2.1 8 _ rfl
            have z9 := HX.out.2.1.2.1 9 _ rfl
            have z10 := HX.out.2.1.2.1 10 _ rfl
            go_wp2_with fail
            refine CA.out.mono ?_
            rintro e w6 (⟨er, rfl, hne, hb6⟩ | ⟨nb', V', ⟨sa, sn, sc⟩, T', rfl, hs6, hl6, hg6, hn6, hp6, he6⟩)
            · have H6 : Hid (GS true w T w6 sb nb mb bb V P I G B k k ∧ Zb w6 ox [.int .i64 1, .int .i64 qn, .int .i64 ql, .string fr, .string tx, .int .u64 x, .int .u64 y, .int .u64 z, .slice oa on oc, .slice ia l.length ic, .slice pa pn pc, .bool sec]) := ⟨HX.out.1.below hb6, HX.out.2.1.below hb6⟩
              have CNM : Hid (Calls Try.prog 10 #[.int .i64 er] w6 fun e w' => e = .returned (.int .i64 er) ∧ w' = w6) := num13_any er w6
              clear hb6 CA z0 z5 z6 z7 z8 z9 z10 HX
              have z9 := H6.out.2.2.1 9 _ rfl
              go_wp2_with fail
              go_loopw [12] (fun v wq => v = .int .i64 0 ∧ wq = w6) (fun _ _ => 0)
              case atStart => exact ⟨rfl, rfl⟩
              case round =>
                obtain ⟨rfl, hw⟩ := hrel
                rename World => wq
                subst hw
                have HM : Hid (GM true w T wq sb nb mb bb V P I G B (k + 1) k (none, 0, 0) []) := H6.out.1.mid
                by_cases hl0 : 0 < l.length
                · have hl1 : (0 : Int) < (l.length : Int) := by omega
                  have CT : Hid (Calls Try.prog 14 #[.pointer (some ⟨bb, 0, none⟩), .slice none 0 0] wq fun e w' => e = .returned (.bool true) ∧ ∃ T', GS true w T' w' sb nb mb bb V P I (G ++ []) B (k + 1) (k + 1)) := told_G HM.out (by omega) (by omega)
                  go_wp2_with (first
                    | (go_at_call 10; go_loud (refine CNM.out.mono ?_; rintro e w99 ⟨rfl, hw99⟩; have hw98 := hw99.symm; clear hw99; subst hw98))
                    | (go_at_call 14; go_loud (refine CT.out.mono ?_; rintro e w8 ⟨rfl, T8, h8⟩; have H8 : Hid (GS true w T8 w8 sb nb mb bb V P I (G ++ []) B (k + 1) (k + 1)) := h8; clear h8))
                    | (go_at_call 15; go_loud (refine (right_G H8.out (by omega) (by omega)).mono ?_; rintro e w9 ⟨rfl, hb9⟩; have H9 : Hid (GS true w T8 w9 sb nb mb bb V P I (G ++ []) B (k + 1) (k + 1)) := H8.out.below hb9; clear hb9)))
                  go_roundw
                  case rel => exact ⟨k + 1, T8, nb, _, _, _, _, _, by omega, by go_num, H9.out⟩
                  case measure => simp [intOf]; omega
                · have hl1 : ¬ (0 : Int) < (l.length : Int) := by omega
                  have hl2 : decide ((0 : Int) < (l.length : Int)) = false := decide_eq_false hl1
                  have CT : Hid (Calls Try.prog 14 #[.pointer (some ⟨bb, 0, none⟩), .slice none 0 0] wq fun e w' => e = .returned (.bool true) ∧ ∃ T', GS true w T' w' sb nb mb bb V P I (G ++ []) B (k + 1) (k + 1)) := told_G HM.out (by omega) (by omega)
                  go_wp2_with (first
                    | (go_at_call 14; go_loud (refine CT.out.mono ?_; rintro e w8 ⟨rfl, T8, h8⟩; have H8 : Hid (GS true w T8 w8 sb nb mb bb V P I (G ++ []) B (k + 1) (k + 1)) := h8; clear h8))
                    | (go_at_call 15; go_loud (refine (right_G H8.out (by omega) (by omega)).mono ?_; rintro e w9 ⟨rfl, hb9⟩; have H9 : Hid (GS true w T8 w9 sb nb mb bb V P I (G ++ []) B (k + 1) (k + 1)) := H8.out.below hb9; clear hb9)))
                  go_roundw
                  case rel => exact ⟨k + 1, T8, nb, _, _, _, _, _, by omega, by go_num, H9.out⟩
                  case measure => simp [intOf]; omega
            · have H6 : Hid (InS w T' w6 sb nb' mb bb ox V' P I I G B (k + 1) 0 l [.int .i64 1, .int .i64 qn, .int .i64 ql, .string fr, .string tx, .int .u64 x, .int .u64 y, .int .u64 z, .slice oa on oc, .slice ia l.length ic, .slice pa pn pc, .bool sec] (sa, sn, sc) (goneL nb' V' P nb V)) := ⟨hs6, HX.out.1.q.goes hg6 (by decide) (by decide) (by decide) (by decide), fun y => by simp, by omega, fun p hp => by simp at hp, HX.out.2.1.goes hg6 (by rw [HX.out.2.2]; decide), (hg6.tag ox HX.out.2.1.1 (by rw [HX.out.2.2]; decide)).trans HX.out.2.2, hl6⟩
              have HFI : Hid (nb ≠ nb' ∧ (∀ p ∈ P, p.vb ≠ nb') ∧ edit2 V O l = .ok V') := ⟨hn6, hp6, he6⟩
              have HXG : Hid (GS true w T w5 sb nb mb bb V P I G B k k) := HX.out.1
              clear hs6 hl6 hg6 hn6 hp6 he6 CA z0 z5 z6 z7 z8 z9 z10 HX
              have z9 := H6.out.z.2.1 9 _ rfl
              obtain ⟨iz, hiz, hz0, hz1, hz2⟩ := info_parts infoU1
              go_wp2_with fail
              simp only [svV]
              go_loopw [12] (fun v wq => ∃ (i : Nat) (T2 : Nat → Nat) (I2 : List Int), i ≤ l.length ∧ v = .int .i64 (i : Int) ∧ Hid (InS w T2 wq sb nb' mb bb ox V' P I I2 G B (k + 1) i l [.int .i64 1, .int .i64 qn, .int .i64 ql, .string fr, .string tx, .int .u64 x, .int .u64 y, .int .u64 z, .slice oa on oc, .slice ia l.length ic, .slice pa pn pc, .bool sec] (sa, sn, sc) (goneL nb' V' P nb V))) (fun v _ => l.length - (intOf v).toNat)
              case atStart => exact ⟨0, T', I, Nat.zero_le _, rfl, H6.out⟩
              case round =>
                clear H6 z9
                obtain ⟨i, T2, I2, hi, rfl, HY⟩ := hrel
                rename World => wq
                have z9 := HY.out.z.2.1 9 _ rfl
                have CNM : Hid (Calls Try.prog 10 #[.int .i64 0] wq fun e w' => e = .returned (.int .i64 0) ∧ w' = wq) := num13_any 0 wq
                by_cases hil : i < l.length
                · have q2 : (i : Int) < (l.length : Int) := by omega
                  have HILb := HIL.out
                  obtain ⟨b2, off2, e2, hb2, p, hp, _, c1, _, _, _, _, _⟩ := (HE.out.li.below HY.out.set.old.below).pi hil
                  subst e2
                  obtain ⟨⟨Ia, Im, Ic⟩, ⟨Ga, Gm, Gc⟩, sB, hz, oI, oG, oB⟩ := HY.out.q.box
                  have d0 := hz.2.1 0 _ rfl
                  have d1 := hz.2.1 1 _ rfl
                  have f0 := hz.2.2 0
                  simp only [svV] at d0 d1
                  have HQ : Hid (Zb wq bb [svV (Ia, Im, Ic), svV (Ga, Gm, Gc), svV sB] ∧ OwnK kU 21 T2 wq (svV (Ia, Im, Ic)) I2 ∧ OwnK kU 22 T2 wq (svV (Ga, Gm, Gc)) G ∧ PB true T2 wq sB B ∧ l[i]? = some p ∧ T2 bb = 20) := ⟨hz, oI, oG, oB, hp, HY.out.q.tb⟩
                  have hlg := HXG.out.lg
                  have hli := HXG.out.li
                  have hl2 := HY.out.len
                  have CG0 := inside_any Ga Gc Gm G (p.t.no : Int) wq (Ls.own oG) (by omega)
                  have CI0 := inside_any Ia Ic Im I2 (p.t.no : Int) wq (Ls.own oI) (by omega)
                  clear hz oI oG oB hp
                  by_cases hG : ((p.t.no : Nat) : Int) ∈ G
                  · rw [decide_eq_true hG] at CG0
                    have CG : Hid (Calls Try.prog 11 #[.slice Ga Gm Gc, .int .u64 (p.t.no : Int)] wq fun e w' => e = .returned (.bool true) ∧ w' = wq) := CG0
                    clear CG0 CI0
                    go_wp2_with (first
                      | (go_at_call 10; go_loud (refine CNM.out.mono ?_; rintro e w99 ⟨rfl, hw99⟩; have hw98 := hw99.symm; clear hw99; subst hw98))
                      | (go_at_call 11; go_loud (refine CG.out.mono ?_; rintro e w99 ⟨rfl, hw99⟩; have hw98 := hw99.symm; clear hw99; subst hw98)))
                    go_ret
                    exact ⟨rfl, HY.out.set.old.below⟩
                  · rw [decide_eq_false hG] at CG0
                    have CG : Hid (Calls Try.prog 11 #[.slice Ga Gm Gc, .int .u64 (p.t.no : Int)] wq fun e w' => e = .returned (.bool false) ∧ w' = wq) := CG0
                    have HG : Hid (¬ ((p.t.no : Nat) : Int) ∈ G) := hG
                    clear CG0 hG
                    by_cases hI : ((p.t.no : Nat) : Int) ∈ I2
                    · rw [decide_eq_true hI] at CI0
                      have CI : Hid (Calls Try.prog 11 #[.slice Ia Im Ic, .int .u64 (p.t.no : Int)] wq fun e w' => e = .returned (.bool true) ∧ w' = wq) := CI0
                      have HI : Hid (((p.t.no : Nat) : Int) ∈ I2) := hI
                      clear CI0 hI
                      go_upto_region 24 with (go_at_call 10; go_loud (refine CNM.out.mono ?_; rintro e w99 ⟨rfl, hw99⟩; have hw98 := hw99.symm; clear hw99; subst hw98))
                      go_upto_region 26 with (go_at_call 11; go_loud (refine CG.out.mono ?_; rintro e w99 ⟨rfl, hw99⟩; have hw98 := hw99.symm; clear hw99; subst hw98))
                      go_wp2_with (go_at_call 11; go_loud (refine CI.out.mono ?_; rintro e w99 ⟨rfl, hw99⟩; have hw98 := hw99.symm; clear hw99; subst hw98))
                      go_roundw
                      case rel => exact ⟨i + 1, T2, I2, by omega, by go_num, HY.out.step HQ.out.2.2.2.2.1 HG.out HI.out⟩
                      case measure => simp [intOf]; omega
                    · rw [decide_eq_false hI] at CI0
                      have CI : Hid (Calls Try.prog 11 #[.slice Ia Im Ic, .int .u64 (p.t.no : Int)] wq fun e w' => e = .returned (.bool false) ∧ w' = wq) := CI0
                      clear CI0 hI
                      go_upto_region 24 with (go_at_call 10; go_loud (refine CNM.out.mono ?_; rintro e w99 ⟨rfl, hw99⟩; have hw98 := hw99.symm; clear hw99; subst hw98))
                      go_upto_region 26 with (go_at_call 11; go_loud (refine CG.out.mono ?_; rintro e w99 ⟨rfl, hw99⟩; have hw98 := hw99.symm; clear hw99; subst hw98))
                      go_upto_region 27 with (go_at_call 11; go_loud (refine CI.out.mono ?_; rintro e w99 ⟨rfl, hw99⟩; have hw98 := hw99.symm; clear hw99; subst hw98))
                      have HI0 : Hid (p.t.no = p.t.no) := rfl
                      go_wp2_with (at_builtin; go_loud (refine wpList_appK kU _ (by rfl) (.tmp 95) (.tmp 97) 27 (by rfl) iz Try.underlying27 hiz hz0 hz1 hz2 21 T2 (.slice Ia Im Ic) I2 (by rfl) (HQ.out.2.1.below ((Below.refl _ _).alloc (Nat.le_refl _) _)) (some ⟨wq.heap.size, 0, none⟩) 1 1 [(p.t.no : Int)] (by rfl) rfl (by simp) (isK_newU wq (p.t.no : Int) _) (by simp; omega) ?_; intro a' cc' T3 w7 ho7 hg7; have HZ7 := (HQ.out.1.below ((Below.refl _ _).alloc (Nat.le_refl _) (Obj.cells #[.int .u64 (p.t.no : Int)] 33))).goes hg7 (by rw [HQ.out.2.2.2.2.2]; decide); have HY7 : Hid (OwnK kU 21 T3 w7 (.slice a' (I2.length + 1) cc') (I2 ++ [(p.t.no : Int)]) ∧ Goes (· = 21) T2 (wq.alloc (Obj.cells #[.int .u64 (p.t.no : Int)] 33)) T3 w7 ∧ Zb w7 bb [svV (Ia, Im, Ic), svV (Ga, Gm, Gc), svV sB]) := ⟨ho7, hg7, HZ7⟩; have e0 := HZ7.2.1 0 _ rfl; have e1 := HZ7.2.2 0; simp only [svV] at e0; clear ho7 hg7 HZ7; simp only [List.length_singleton]))
                      go_roundw
                      case rel =>
                        have hb1 : RowKit.Below wq.heap.size wq (wq.alloc (Obj.cells #[.int .u64 (p.t.no : Int)] 33)) := (Below.refl _ _).alloc (Nat.le_refl _) _
                        have hT3 : T3 bb = 20 := (HY7.out.2.1.tag bb (HQ.out.1.below hb1).1 (by rw [HQ.out.2.2.2.2.2]; decide)).trans HQ.out.2.2.2.2.2
                        have hgs : Goes (· = 20) T3 w7 T3 (w7.setCell ⟨bb, 0, none⟩ (.slice a' (I2.length + 1) cc')) := Goes.setCell (t := (· = 20)) hT3
                        have hgg : Goes (fun t => t = 20 ∨ t = 21) T2 wq T3 (w7.setCell ⟨bb, 0, none⟩ (.slice a' (I2.length + 1) cc')) := ((Goes.below (t := fun t => t = 20 ∨ t = 21) hb1).trans (HY7.out.2.1.mono (fun _ => .inr))).trans (hgs.mono (fun _ => .inl))
                        refine ⟨i + 1, T3, I2 ++ [(p.t.no : Int)], by omega, by go_num, HY.out.put HQ.out.2.2.2.2.1 HG.out hgg ⟨hT3, (a', I2.length + 1, cc'), (Ga, Gm, Gc), sB, HY7.out.2.2.set 0 _, HY7.out.1.goes hgs (by decide), HQ.out.2.2.1.goes hgg (by decide), HQ.out.2.2.2.1.goes hgg (by decide)⟩⟩
                      case measure => simp [intOf]; omega
                · have q2 : ¬ (i : Int) < (l.length : Int) := by omega
                  have q3 : decide ((i : Int) < (l.length : Int)) = false := decide_eq_false q2
                  have HM : Hid (GM true w T2 wq sb nb' mb bb V' P I2 G B (k + 1) k (sa, sn, sc) (goneL nb' V' P nb V)) := by
                    have := HY.out
                    rw [show i = l.length by omega] at this
                    exact InS.mid HXG.out HFI.out.1 HFI.out.2.1 HFI.out.2.2 HIL.out this hk3
                  have CT : Hid (Calls Try.prog 14 #[.pointer (some ⟨bb, 0, none⟩), .slice sa sn sc] wq fun e w' => e = .returned (.bool true) ∧ ∃ T', GS true w T' w' sb nb' mb bb V' P I2 (G ++ goneL nb' V' P nb V) B (k + 1) (k + 1)) := told_G HM.out (by omega) (by omega)
                  go_wp2_with (first
                    | (go_at_call 14; go_loud (refine CT.out.mono ?_; rintro e w8 ⟨rfl, T8, h8⟩; have H8 : Hid (GS true w T8 w8 sb nb' mb bb V' P I2 (G ++ goneL nb' V' P nb V) B (k + 1) (k + 1)) := h8; clear h8))
                    | (go_at_call 15; go_loud (refine (right_G H8.out (by omega) (by omega)).mono ?_; rintro e w9 ⟨rfl, hb9⟩; have H9 : Hid (GS true w T8 w9 sb nb' mb bb V' P I2 (G ++ goneL nb' V' P nb V) B (k + 1) (k + 1)) := H8.out.below hb9; clear hb9)))
                  go_roundw
                  case rel => exact ⟨k + 1, T8, nb', _, _, _, _, _, by omega, by go_num, H9.out⟩
                  case measure => simp [intOf]; omega
          · by_cases hkd2 : kd = 2
            · subst hkd2
              clear hkd
              obtain ⟨sI, sG, ⟨Ba, Bm, Bc⟩, hz, oI, oG, oB⟩ := HX.out.1.q.box
              have hpm := oB.1.1.2.1
              change Bm = B.length at hpm
              subst hpm
              have HQ : Hid (Zb w5 bb [svV sI, svV sG, svV (Ba, B.length, Bc)] ∧ OwnK kU 21 T w5 (svV sI) I ∧ OwnK kU 22 T w5 (svV sG) G ∧ OwnK kV 23 T w5 (.slice Ba B.length Bc) B ∧ T bb = 20) := ⟨hz, oI, oG, oB.2 rfl, HX.out.1.q.tb⟩
              clear hz oI oG oB
              have hB3 : B.length ≤ 300 := by have := HX.out.1.lb; omega
              have HS5 : Hid (∀ W, RowKit.Below w5.heap.size w5 W → W.cell? ⟨bb, 2, none⟩ = some (.slice Ba B.length Bc)) := fun W hW => by
                have := (HQ.out.1.below hW).2.1 2 _ rfl
                simpa [svV] using this
              have CP : Hid (∀ W, RowKit.Below w5.heap.size w5 W → Calls Try.prog 12 #[.pointer (some ⟨sb, 0, none⟩)] W fun e w' => e = .returned (.pointer (some ⟨nb, 0, none⟩)) ∧ ∃ T', SetK w T' w' sb nb mb V (pinL nb V P) k ∧ QAt true T' w' bb I G B ∧ Zb w' bb [svV sI, svV sG, svV (Ba, B.length, Bc)] ∧ OwnK kV 23 T' w' (.slice Ba B.length Bc) B ∧ OwnK kU 21 T' w' (svV sI) I ∧ OwnK kU 22 T' w' (svV sG) G ∧ T' bb = 20) := fun W hW => by
                refine (pin_G (HX.out.1.below hW) hk3).mono ?_
                rintro e w' ⟨rfl, T', hs, hg⟩
                have hT := HQ.out.2.2.2.2
                exact ⟨rfl, T', hs, (HX.out.1.q.below hW).goes hg (by decide) (by decide) (by decide) (by decide), (HQ.out.1.below hW).goes hg (by rw [hT]; decide), (HQ.out.2.2.2.1.below hW).goes hg (by decide), (HQ.out.2.1.below hW).goes hg (by decide), (HQ.out.2.2.1.below hW).goes hg (by decide), (hg.tag bb (HQ.out.1.below hW).1 (by rw [hT]; decide)).trans hT⟩
              obtain ⟨iz, hiz, hz0, hz1, hz2⟩ := info_parts infoV
              go_wp2_with fail
              clear z0
              have d2 := HS5.out _ (Below.refl _ _)
              go_region_law (first
                  | (refine step_appK kV _ (by rfl) (.tmp 107) (.tmp 110) 28 (by rfl) iz Try.underlying28 hiz hz0 hz1 hz2 23 T6 (.slice Ba B.length Bc) B (by rfl) (HY.out.2.2.1.below ((Below.refl _ _).alloc (Nat.le_refl _) _)) (some ⟨w6.heap.size, 0, none⟩) 1 1 [nb] (by rfl) rfl (by simp) (isK_newV w6 nb _) (by simp; omega) ?_; intro a8 c8 T8 w8 ho8 hg8; have HW8 : Hid (OwnK kV 23 T8 w8 (.slice a8 (B.length + 1) c8) (B ++ [nb]) ∧ Goes (· = 23) T6 w6 T8 w8) := ⟨ho8, (Goes.below (t := (· = 23)) ((Below.refl _ _).alloc (Nat.le_refl _) _)).trans hg8⟩; have HZ8 := HY.out.2.1.goes HW8.out.2 (by rw [HY.out.2.2.2.2.2]; decide); have k1 := HZ8.2.1 2 _ rfl; have k2 := HZ8.2.2 2; simp only [svV] at k1; simp only [List.length_singleton])
                  | (go_simp; go_at_call 12; refine (CP.out _ (Below.refl _ _).drew).mono ?_; rintro e w6 ⟨rfl, T6, hs6, hq6, hz6, ho6, hi6, hg6, ht6⟩; have HY : Hid (SetK w T6 w6 sb nb mb V (pinL nb V P) k ∧ Zb w6 bb [svV sI, svV sG, svV (Ba, B.length, Bc)] ∧ OwnK kV 23 T6 w6 (.slice Ba B.length Bc) B ∧ OwnK kU 21 T6 w6 (svV sI) I ∧ OwnK kU 22 T6 w6 (svV sG) G ∧ T6 bb = 20) := ⟨hs6, hz6, ho6, hi6, hg6, ht6⟩; have hS6 := cell_svV hz6; have hS7 := cell_alloc hS6 hz6.1; have hS9 := hz6.1))
              all_goals
                have HM : Hid (GM true w T8 (w8.setCell ⟨bb, 2, none⟩ (.slice a8 (B.length + 1) c8)) sb nb mb bb V (pinL nb V P) I G (B ++ [nb]) (k + 1) k (none, 0, 0) []) := by
                  have hT8 : T8 bb = 20 := (HW8.out.2.tag bb HY.out.2.1.1 (by rw [HY.out.2.2.2.2.2]; decide)).trans HY.out.2.2.2.2.2
                  have hgs : Goes (· = 20) T8 w8 T8 (w8.setCell ⟨bb, 2, none⟩ (.slice a8 (B.length + 1) c8)) := Goes.setCell (t := (· = 20)) hT8
                  have hgg : Goes (fun t => t = 20 ∨ t = 23) T6 w6 T8 (w8.setCell ⟨bb, 2, none⟩ (.slice a8 (B.length + 1) c8)) := (HW8.out.2.mono (fun _ => .inr)).trans (hgs.mono (fun _ => .inl))
                  exact GS.pinned HX.out.1 (by omega) (HY.out.1.goes hgg (by decide) (by decide) (by decide) (by decide)) ⟨hT8, sI, sG, (a8, B.length + 1, c8), (HY.out.2.1.goes HW8.out.2 (by rw [HY.out.2.2.2.2.2]; decide)).set 2 _, HY.out.2.2.2.1.goes hgg (by decide), HY.out.2.2.2.2.1.goes hgg (by decide), PB.own (HW8.out.1.goes hgs (by decide))⟩
                obtain ⟨W9, hW9⟩ : ∃ X, w8.setCell ⟨bb, 2, none⟩ (.slice a8 (B.length + 1) c8) = X := ⟨_, rfl⟩
                rw [hW9] at HM ⊢
                clear hW9 k1 k2 d2 HW8 HY
                have CT : Hid (Calls Try.prog 14 #[.pointer (some ⟨bb, 0, none⟩), .slice none 0 0] W9 fun e w' => e = .returned (.bool true) ∧ ∃ T', GS true w T' w' sb nb mb bb V (pinL nb V P) I (G ++ []) (B ++ [nb]) (k + 1) (k + 1)) := told_G HM.out (by omega) (by omega)
                go_wp2_with (first
                  | (go_at_call 14; go_loud (refine CT.out.mono ?_; rintro e w8 ⟨rfl, T9, h8⟩; have H8 : Hid (GS true w T9 w8 sb nb mb bb V (pinL nb V P) I (G ++ []) (B ++ [nb]) (k + 1) (k + 1)) := h8; clear h8))
                  | (go_at_call 15; go_loud (refine (right_G H8.out (by omega) (by omega)).mono ?_; rintro e w9 ⟨rfl, hb9⟩; have H9 : Hid (GS true w T9 w9 sb nb mb bb V (pinL nb V P) I (G ++ []) (B ++ [nb]) (k + 1) (k + 1)) := H8.out.below hb9; clear hb9)))
                go_roundw
                case rel => exact ⟨k + 1, T9, nb, _, _, _, _, _, by omega, by go_num, H9.out⟩
                case measure => simp [intOf]; omega
            · by_cases hkd3 : kd = 3
              · subst hkd3
                clear hkd hkd2
                obtain ⟨sI, sG, ⟨Ba, Bm, Bc⟩, hz, oI, oG, oB⟩ := HX.out.1.q.box
                have hpm := oB.1.1.2.1
                change Bm = B.length at hpm
                subst hpm
                have d2 := hz.2.1 2 _ rfl
                have f2 := hz.2.2 2
                simp only [svV] at d2
                have HQ : Hid (Zb w5 bb [svV sI, svV sG, svV (Ba, B.length, Bc)] ∧ OwnK kU 21 T w5 (svV sI) I ∧ OwnK kU 22 T w5 (svV sG) G ∧ OwnK kV 23 T w5 (.slice Ba B.length Bc) B ∧ T bb = 20) := ⟨hz, oI, oG, oB.2 rfl, HX.out.1.q.tb⟩
                clear hz oI oG oB
                by_cases hB0 : 0 < B.length
                · have hB1 : (0 : Int) < (B.length : Int) := by omega
                  have z1 := HX.out.2.1.2.1 1 _ rfl
                  have hB3 : B.length ≤ 300 := by have := HX.out.1.lb; omega
                  obtain ⟨um, eu⟩ : ∃ um : Nat, IntKind.u64.wrap qn = (um : Int) := ⟨(IntKind.u64.wrap qn).toNat, by rw [IntKind.wrap_u64]; omega⟩
                  obtain ⟨nn, hnn⟩ : ∃ nn, um % B.length = nn := ⟨_, rfl⟩
                  have hnl : nn < B.length := by rw [← hnn]; exact Nat.mod_lt _ hB0
                  have em : ((um : Int)).tmod (B.length : Int) = (nn : Int) := by rw [← hnn]; rfl
                  clear hnn
                  have e1 : IntKind.u64.wrap (B.length : Int) = (B.length : Int) := IntWalk.u64_in _ (by omega)
                  have e2 : IntKind.u64.wrap (nn : Int) = (nn : Int) := IntWalk.u64_in _ (by omega)
                  have e3 : IntKind.i64.wrap (nn : Int) = (nn : Int) := IntWalk.i64_in _ (by omega)
                  have e4 : ¬ (B.length : Int) = 0 := by omega
                  go_upto_region 32 with fail
                  go_wp2_with fail
                  go_quiet (fail)
                  clear eu em e1 e2 e3 e4
                  obtain ⟨W6, hW6⟩ : ∃ X, w5.drewN nq = X := ⟨_, rfl⟩
                  obtain ⟨b', hb'⟩ : ∃ b', B[nn]? = some b' := ⟨_, List.getElem?_eq_getElem hnl⟩
                  have H6 : Hid (GS true w T W6 sb nb mb bb V P I G B k k ∧ Zb W6 bb [svV sI, svV sG, svV (Ba, B.length, Bc)] ∧ OwnK kU 21 T W6 (svV sI) I ∧ OwnK kU 22 T W6 (svV sG) G ∧ OwnK kV 23 T W6 (.slice Ba B.length Bc) B ∧ B[nn]? = some b') := by
                    have hbq : RowKit.Below w5.heap.size w5 W6 := by rw [← hW6]; exact bl_dn (Below.refl _ _) nq
                    exact ⟨HX.out.1.below hbq, HQ.out.1.below hbq, HQ.out.2.1.below hbq, HQ.out.2.2.1.below hbq, HQ.out.2.2.2.1.below hbq, hb'⟩
                  have HTB : Hid (T bb = 20) := HQ.out.2.2.2.2
                  obtain ⟨g2, hg2⟩ : ∃ g2, Ba = some ⟨g2, 0, none⟩ := by
                    rcases HQ.out.2.2.2.1.1.2 with ⟨h1, h2⟩ | ⟨g, cap, cur, hv, _⟩
                    · omega
                    · cases hv; exact ⟨g, rfl⟩
                  subst hg2
                  rw [hW6]
                  clear hW6 hb' HX HQ d2 f2 z0 z1
                  have d2 := H6.out.2.1.2.1 2 _ rfl
                  simp only [svV] at d2
                  obtain ⟨g9, o9, e9, _, y9⟩ := (Ls.own (s := (some ⟨g2, 0, none⟩, B.length, Bc)) H6.out.2.2.2.2.1).v H6.out.2.2.2.2.2
                  cases e9
                  rw [Nat.zero_add] at y9
                  have hn1 : (nn : Int) < (B.length : Int) := by omega
                  have CU : Hid (Calls Try.prog 13 #[.pointer (some ⟨sb, 0, none⟩), .pointer (some ⟨b', 0, none⟩)] W6 fun e w' => ∃ (s : Sv) (T' : Nat → Nat), e = .returned (svV s) ∧ SetK w T' w' sb nb mb V (unpL (some ⟨b', 0, none⟩) P) k ∧ Lt kU 7 T' w' s (unpR (some ⟨b', 0, none⟩) nb V P) ∧ Goes (fun t => t = 1 ∨ t = 2 ∨ t = 6 ∨ t = 7) T W6 T' w') := unpin_G H6.out.1 (by omega) H6.out.2.2.2.2.2
                  go_upto_region 34 with (go_at_call 13; go_loud (refine CU.out.mono ?_; rintro e w7 ⟨⟨sa, sn, sc⟩, T7, rfl, hs7, hl7, hg7⟩; have H7 : Hid (SetK w T7 w7 sb nb mb V (unpL (some ⟨b', 0, none⟩) P) k ∧ Lt kU 7 T7 w7 (sa, sn, sc) (unpR (some ⟨b', 0, none⟩) nb V P) ∧ Goes (fun t => t = 1 ∨ t = 2 ∨ t = 6 ∨ t = 7) T W6 T7 w7) := ⟨hs7, hl7, hg7⟩; clear hs7 hl7 hg7; simp only [svV]))
                  clear d2 y9 CU
                  have HY : Hid (Zb w7 bb [svV sI, svV sG, svV (some ⟨g2, 0, none⟩, B.length, Bc)] ∧ OwnK kU 21 T7 w7 (svV sI) I ∧ OwnK kU 22 T7 w7 (svV sG) G ∧ OwnK kV 23 T7 w7 (.slice (some ⟨g2, 0, none⟩) B.length Bc) B ∧ T7 bb = 20) := by
                    have hg := H7.out.2.2
                    have hT := HTB.out
                    exact ⟨H6.out.2.1.goes hg (by rw [hT]; decide), H6.out.2.2.1.goes hg (by decide), H6.out.2.2.2.1.goes hg (by decide), H6.out.2.2.2.2.1.goes hg (by decide), (hg.tag bb H6.out.2.1.1 (by rw [hT]; decide)).trans hT⟩
                  have d2 := HY.out.1.2.1 2 _ rfl
                  have f2 := HY.out.1.2.2 2
                  simp only [svV] at d2
                  have hcap : B.length ≤ Bc := (OwnK.sk (s := (some ⟨g2, 0, none⟩, B.length, Bc)) HY.out.2.2.2.1).2.2.1
                  obtain ⟨iz, hiz, hz0, hz1, hz2⟩ := info_parts infoV
                  have q1 : (nn : Int) ≤ (Bc : Int) := by omega
                  have q3 : (nn : Int) + 1 ≤ (B.length : Int) := by omega
                  have q5 : IntKind.i64.wrap ((nn : Int) + 1) = (nn : Int) + 1 := IntWalk.i64_in _ (by omega)
                  have q6 : (0 : Int) ≤ (nn : Int) := by omega
                  have q7 : (0 : Int) ≤ (nn : Int) + 1 := by omega
                  go_wp2_with fail
                  have hlen8 : (B.take nn).length + (B.drop (nn + 1)).length = (B.eraseIdx nn).length := by rw [List.eraseIdx_eq_take_drop_succ, List.length_append]
                  have HL8 : Hid ((B.take nn).length + (B.drop (nn + 1)).length = (B.eraseIdx nn).length ∧ nn < B.length ∧ B.length ≤ 300) := ⟨hlen8, hnl, hB3⟩
                  clear hlen8
                  go_region_law (first
                    | (refine step_appK kV _ (by rfl) (.tmp 148) (.tmp 155) 28 (by rfl) iz Try.underlying28 hiz hz0 hz1 hz2 23 T7 (.slice (some ⟨g2, 0, none⟩) nn Bc) (B.take nn) (by simp [Act.eval, Act.put]) (ownK_cut (HY.out.2.2.2.1.below (Below.refl _ _).drew) (by have := HL8.out; omega)) (if Bc = nn + 1 then some ⟨g2, 0, none⟩ else some ⟨g2, nn + 1, none⟩) (B.length - (nn + 1)) (Bc - (nn + 1)) (B.drop (nn + 1)) (by simp [Act.eval, Act.put]; try (split <;> simp_all)) (by simp) (by split <;> simp) (isV_drop nn (Ls.own (s := (some ⟨g2, 0, none⟩, B.length, Bc)) (HY.out.2.2.2.1.below (Below.refl _ _).drew))) (by have := HL8.out; simp; omega) ?_; intro a8 c8 T8 w8 ho8 hg8; rw [HL8.out.1, ← List.eraseIdx_eq_take_drop_succ] at ho8; rw [HL8.out.1]; have HW8 : Hid (OwnK kV 23 T8 w8 (.slice a8 (B.eraseIdx nn).length c8) (B.eraseIdx nn) ∧ Goes (· = 23) T7 w7 T8 w8) := ⟨ho8, (Goes.below (t := (· = 23)) (Below.refl _ _).drew).trans hg8⟩; have HZ8 := HY.out.1.goes HW8.out.2 (by rw [HY.out.2.2.2.2]; decide); have k1 := HZ8.2.1 2 _ rfl; have k2 := HZ8.2.2 2; simp only [svV] at k1; clear ho8 hg8 HZ8))
                  all_goals
                    generalize (if Bc = nn + 1 then some (⟨g2, 0, none⟩ : Addr) else some ⟨g2, nn + 1, none⟩) = zz1
                    obtain ⟨W9, hW9⟩ : ∃ X, w8.setCell ⟨bb, 2, none⟩ (.slice a8 (B.eraseIdx nn).length c8) = X := ⟨_, rfl⟩
                    have HM : Hid (GM true w T8 W9 sb nb mb bb V (unpL (some ⟨b', 0, none⟩) P) I G (B.eraseIdx nn) (k + 1) k (sa, sn, sc) (unpR (some ⟨b', 0, none⟩) nb V P)) := by
                      have hT8 : T8 bb = 20 := (HW8.out.2.tag bb HY.out.1.1 (by rw [HY.out.2.2.2.2]; decide)).trans HY.out.2.2.2.2
                      have hgs : Goes (· = 20) T8 w8 T8 W9 := by rw [← hW9]; exact Goes.setCell (t := (· = 20)) hT8
                      have hgg : Goes (fun t => t = 20 ∨ t = 23) T7 w7 T8 W9 := (HW8.out.2.mono (fun _ => .inr)).trans (hgs.mono (fun _ => .inl))
                      refine GS.unpinned (f := true) H6.out.1 H6.out.2.2.2.2.2 (k + 1) (Nat.le_succ _) ((H7.out.1.goes hgg (by decide) (by decide) (by decide) (by decide)).more (Nat.le_succ _)) (H7.out.2.1.goes hgg (by decide)).1 ⟨hT8, sI, sG, (a8, (B.eraseIdx nn).length, c8), ?_, HY.out.2.1.goes hgg (by decide), HY.out.2.2.1.goes hgg (by decide), PB.own (HW8.out.1.goes hgs (by decide))⟩
                      rw [← hW9]
                      exact (HY.out.1.goes HW8.out.2 (by rw [HY.out.2.2.2.2]; decide)).set 2 _
                    rw [hW9]
                    clear hW9 k1 k2 d2 f2 HW8 HY H7 H6
                    have CT : Hid (Calls Try.prog 14 #[.pointer (some ⟨bb, 0, none⟩), .slice sa sn sc] W9 fun e w' => e = .returned (.bool true) ∧ ∃ T', GS true w T' w' sb nb mb bb V (unpL (some ⟨b', 0, none⟩) P) I (G ++ unpR (some ⟨b', 0, none⟩) nb V P) (B.eraseIdx nn) (k + 1) (k + 1)) := told_G HM.out (by omega) (by omega)
                    go_wp2_with (first
                      | (go_at_call 14; go_loud (refine CT.out.mono ?_; rintro e w8 ⟨rfl, T10, h8⟩; have H8 : Hid (GS true w T10 w8 sb nb mb bb V (unpL (some ⟨b', 0, none⟩) P) I (G ++ unpR (some ⟨b', 0, none⟩) nb V P) (B.eraseIdx nn) (k + 1) (k + 1)) := h8; clear h8))
                      | (go_at_call 15; go_loud (refine (right_G H8.out (by omega) (by omega)).mono ?_; rintro e w9 ⟨rfl, hb9⟩; have H9 : Hid (GS true w T10 w9 sb nb mb bb V (unpL (some ⟨b', 0, none⟩) P) I (G ++ unpR (some ⟨b', 0, none⟩) nb V P) (B.eraseIdx nn) (k + 1) (k + 1)) := H8.out.below hb9; clear hb9)))
                    go_roundw
                    case rel => exact ⟨k + 1, T10, nb, _, _, _, _, _, by omega, by go_num, H9.out⟩
                    case measure => simp [intOf]; omega
                · have hB1 : ¬ (0 : Int) < (B.length : Int) := by omega
                  have HM : Hid (GM true w T w5 sb nb mb bb V P I G B (k + 1) k (none, 0, 0) []) := HX.out.1.mid
                  have CT : Hid (Calls Try.prog 14 #[.pointer (some ⟨bb, 0, none⟩), .slice none 0 0] w5 fun e w' => e = .returned (.bool true) ∧ ∃ T', GS true w T' w' sb nb mb bb V P I (G ++ []) B (k + 1) (k + 1)) := told_G HM.out (by omega) (by omega)
                  go_wp2_with (first
                    | (go_at_call 14; go_loud (refine CT.out.mono ?_; rintro e w8 ⟨rfl, T8, h8⟩; have H8 : Hid (GS true w T8 w8 sb nb mb bb V P I (G ++ []) B (k + 1) (k + 1)) := h8; clear h8))
                    | (go_at_call 15; go_loud (refine (right_G H8.out (by omega) (by omega)).mono ?_; rintro e w9 ⟨rfl, hb9⟩; have H9 : Hid (GS true w T8 w9 sb nb mb bb V P I (G ++ []) B (k + 1) (k + 1)) := H8.out.below hb9; clear hb9)))
                  go_roundw
                  case rel => exact ⟨k + 1, T8, nb, _, _, _, _, _, by omega, by go_num, H9.out⟩
                  case measure => simp [intOf]; omega
              · have HM : Hid (GM true w T w5 sb nb mb bb V P I G B (k + 1) k (none, 0, 0) []) := HX.out.1.mid
                have CT : Hid (Calls Try.prog 14 #[.pointer (some ⟨bb, 0, none⟩), .slice none 0 0] w5 fun e w' => e = .returned (.bool true) ∧ ∃ T', GS true w T' w' sb nb mb bb V P I (G ++ []) B (k + 1) (k + 1)) := told_G HM.out (by omega) (by omega)
                go_wp2_with (first
                  | (go_at_call 14; go_loud (refine CT.out.mono ?_; rintro e w8 ⟨rfl, T8, h8⟩; have H8 : Hid (GS true w T8 w8 sb nb mb bb V P I (G ++ []) B (k + 1) (k + 1)) := h8; clear h8))
                  | (go_at_call 15; go_loud (refine (right_G H8.out (by omega) (by omega)).mono ?_; rintro e w9 ⟨rfl, hb9⟩; have H9 : Hid (GS true w T8 w9 sb nb mb bb V P I (G ++ []) B (k + 1) (k + 1)) := H8.out.below hb9; clear hb9)))
                go_roundw
                case rel => exact ⟨k + 1, T8, nb, _, _, _, _, _, by omega, by go_num, H9.out⟩
                case measure => simp [intOf]; omega
      · have q1 : ¬ (k : Int) < (n : Int) := by omega
        have hk3 : k ≤ 300 := by omega
        go_wp2_with fail
        go_loopw [] (fun wq => ∃ (T2 : Nat → Nat) (P2 : List Pn) (G2 : List Int) (B2 : List Nat) (j : Nat), j + B2.length ≤ 600 ∧ Hid (GS false w T2 wq sb nb mb bb V P2 I G2 B2 k j)) (fun wq => slLen (wq.cell? ⟨bb, 2, none⟩))
        case atStart => exact ⟨T, P, G, B, k, by have := HX.out.lb; omega, HX.out.less⟩
        case round =>
          clear HX
          obtain ⟨T2, P2, G2, B2, j, hj, HY⟩ := hrel
          rename World => wq
          obtain ⟨sI, sG, ⟨Ba, Bm, Bc⟩, hz, oI, oG, oB⟩ := HY.out.q.box
          have hpm := oB.1.1.2.1
          change Bm = B2.length at hpm
          subst hpm
          have d2 := hz.2.1 2 _ rfl
          have f2 := hz.2.2 2
          simp only [svV] at d2
          have hB3 : B2.length ≤ 300 := by have := HY.out.lb; omega
          by_cases hB0 : 0 < B2.length
          · have hB1 : (0 : Int) < (B2.length : Int) := by omega
            obtain ⟨b', hb'⟩ : ∃ b', B2[0]? = some b' := ⟨_, List.getElem?_eq_getElem hB0⟩
            obtain ⟨g9, o9, e9, _, y9⟩ := oB.1.1.v hb'
            subst e9
            rw [Nat.add_zero] at y9
            have HQ : Hid (Zb wq bb [svV sI, svV sG, svV (some ⟨g9, o9, none⟩, B2.length, Bc)] ∧ PB false T2 wq (some ⟨g9, o9, none⟩, B2.length, Bc) B2 ∧ B2[0]? = some b' ∧ OwnK kU 21 T2 wq (svV sI) I ∧ OwnK kU 22 T2 wq (svV sG) G2) := ⟨hz, oB, hb', oI, oG⟩
            have CU : Hid (Calls Try.prog 13 #[.pointer (some ⟨sb, 0, none⟩), .pointer (some ⟨b', 0, none⟩)] wq fun e w' => ∃ (s : Sv) (T' : Nat → Nat), e = .returned (svV s) ∧ SetK w T' w' sb nb mb V (unpL (some ⟨b', 0, none⟩) P2) k ∧ Lt kU 7 T' w' s (unpR (some ⟨b', 0, none⟩) nb V P2) ∧ Goes (fun t => t = 1 ∨ t = 2 ∨ t = 6 ∨ t = 7) T2 wq T' w') := unpin_G HY.out hk3 hb'
            have CT : Hid (∀ W T7 s, Lt kU 7 T7 W s (unpR (some ⟨b', 0, none⟩) nb V P2) → QAt false T7 W bb I G2 B2 → Calls Try.prog 14 #[.pointer (some ⟨bb, 0, none⟩), .slice s.1 s.2.1 s.2.2] W fun e w' => e = .returned (.bool true) ∧ ∃ T', QAt false T' w' bb I (G2 ++ unpR (some ⟨b', 0, none⟩) nb V P2) B2 ∧ Goes (fun t => t = 20 ∨ t = 22) T7 W T' w') := fun W T7 s hl hq => by
              obtain ⟨_, u2, u3⟩ := HY.out.pk.unpin hb'
              obtain ⟨v1, _⟩ := u2 I G2 HY.out.bk
              obtain ⟨r1, r2⟩ := u3 fun p hp => ⟨(HY.out.pins p hp).1.nod, (HY.out.pins p hp).2.2⟩
              have h1 := HY.out.li
              have h2 := HY.out.lg
              exact told_any hq s.1 s.2.1 s.2.2 _ hl.1 v1 r1 (by omega) (by omega) (by omega)
            clear hz oI oG oB hb'
            go_upto_region 40 with (first
              | (go_at_call 13; go_loud (refine CU.out.mono ?_; rintro e w7 ⟨⟨sa, sn, sc⟩, T7, rfl, hs7, hl7, hg7⟩; have H7 : Hid (SetK w T7 w7 sb nb mb V (unpL (some ⟨b', 0, none⟩) P2) k ∧ Lt kU 7 T7 w7 (sa, sn, sc) (unpR (some ⟨b', 0, none⟩) nb V P2) ∧ QAt false T7 w7 bb I G2 B2 ∧ Goes (fun t => t = 1 ∨ t = 2 ∨ t = 6 ∨ t = 7) T2 wq T7 w7) := ⟨hs7, hl7, HY.out.q.goes hg7 (by decide) (by decide) (by decide) (by decide), hg7⟩; clear hs7 hl7 hg7; simp only [svV]))
              | (go_at_call 14; go_loud (refine (CT.out w7 T7 (sa, sn, sc) H7.out.2.1 H7.out.2.2.1).mono ?_; rintro e w8 ⟨rfl, T8, hq8, hg8⟩; have H8 : Hid (SetK w T8 w8 sb nb mb V (unpL (some ⟨b', 0, none⟩) P2) k ∧ QAt false T8 w8 bb I (G2 ++ unpR (some ⟨b', 0, none⟩) nb V P2) B2 ∧ Goes (fun t => t = 20 ∨ t = 22) T7 w7 T8 w8) := ⟨H7.out.1.goes hg8 (by decide) (by decide) (by decide) (by decide), hq8, hg8⟩; clear hq8 hg8)))
            clear d2 f2 y9 CU CT
            obtain ⟨sI8, sG8, ⟨Ba8, Bm8, Bc8⟩, hz8, oI8, oG8, oB8⟩ := H8.out.2.1.box
            have hpm8 := oB8.1.1.2.1
            change Bm8 = B2.length at hpm8
            subst hpm8
            have hcap8 := oB8.1.1.2.2.2.1
            change B2.length ≤ Bc8 at hcap8
            obtain ⟨g8, o8, e8, _, _⟩ := oB8.1.1.v HQ.out.2.2.1
            subst e8
            have d2 := hz8.2.1 2 _ rfl
            have f2 := hz8.2.2 2
            simp only [svV] at d2
            have HZ8 : Hid (Zb w8 bb [svV sI8, svV sG8, svV (some ⟨g8, o8, none⟩, B2.length, Bc8)] ∧ OwnK kU 21 T8 w8 (svV sI8) I ∧ OwnK kU 22 T8 w8 (svV sG8) (G2 ++ unpR (some ⟨b', 0, none⟩) nb V P2) ∧ PB false T8 w8 (some ⟨g8, o8, none⟩, B2.length, Bc8) B2 ∧ T8 bb = 20) := ⟨hz8, oI8, oG8, oB8, H8.out.2.1.tb⟩
            clear hz8 oI8 oG8 oB8
            have r1 : (1 : Int) ≤ (B2.length : Int) := by omega
            have r2 : (B2.length : Int) ≤ (Bc8 : Int) := by omega
            have HL9 : Hid (j + 1 + (B2.eraseIdx 0).length ≤ 600 ∧ (B2.eraseIdx 0).length = B2.length - 1) := by
              have : (B2.eraseIdx 0).length = B2.length - 1 := by rw [List.length_eraseIdx, if_pos hB0]
              exact ⟨by omega, this⟩
            have HEND : Hid (∀ a9 c9, PB false T8 w8 (a9, B2.length - 1, c9) (B2.eraseIdx 0) → GS false w T8 (w8.setCell ⟨bb, 2, none⟩ (.slice a9 (B2.length - 1) c9)) sb nb mb bb V (unpL (some ⟨b', 0, none⟩) P2) I (G2 ++ unpR (some ⟨b', 0, none⟩) nb V P2) (B2.eraseIdx 0) k (j + 1) ∧ slLen ((w8.setCell ⟨bb, 2, none⟩ (.slice a9 (B2.length - 1) c9)).cell? ⟨bb, 2, none⟩) = B2.length - 1) := fun a9 c9 hp9 => by
              have hgs : Goes (· = 20) T8 w8 T8 (w8.setCell ⟨bb, 2, none⟩ (.slice a9 (B2.length - 1) c9)) := Goes.setCell (t := (· = 20)) HZ8.out.2.2.2.2
              refine ⟨GS.first (f := false) HY.out HQ.out.2.2.1 (H8.out.1.goes hgs (by decide) (by decide) (by decide) (by decide)) ⟨HZ8.out.2.2.2.2, sI8, sG8, (a9, B2.length - 1, c9), HZ8.out.1.set 2 _, HZ8.out.2.1.goes hgs (by decide), HZ8.out.2.2.1.goes hgs (by decide), hp9.goes hgs (by decide)⟩, ?_⟩
              have hz9 := HZ8.out.1.set 2 (.slice a9 (B2.length - 1) c9)
              rw [hz9.2.1 2 (.slice a9 (B2.length - 1) c9) rfl]
              rfl
            have HT9 : Hid (PB false T8 w8 (if Bc8 = 1 then some ⟨g8, o8, none⟩ else some ⟨g8, o8 + 1, none⟩, B2.length - 1, Bc8 - 1) (B2.eraseIdx 0)) := HZ8.out.2.2.2.1.tail hB0
            have HM9 : Hid (slLen (wq.cell? ⟨bb, 2, none⟩) = B2.length) := by
              show _ = _
              rw [HQ.out.1.2.1 2 _ rfl]
              rfl
            clear HY HQ H7 H8 HZ8
            by_cases hc1 : Bc8 = 1
            · have hT : PB false T8 w8 (some ⟨g8, o8, none⟩, B2.length - 1, Bc8 - 1) (B2.eraseIdx 0) := by
                have := HT9.out
                rw [if_pos hc1] at this
                exact this
              have HE9 := HEND.out _ _ hT
              have HE : Hid (GS false w T8 (w8.setCell ⟨bb, 2, none⟩ (.slice (some ⟨g8, o8, none⟩) (B2.length - 1) (Bc8 - 1))) sb nb mb bb V (unpL (some ⟨b', 0, none⟩) P2) I (G2 ++ unpR (some ⟨b', 0, none⟩) nb V P2) (B2.eraseIdx 0) k (j + 1) ∧ slLen ((w8.setCell ⟨bb, 2, none⟩ (.slice (some ⟨g8, o8, none⟩) (B2.length - 1) (Bc8 - 1))).cell? ⟨bb, 2, none⟩) = B2.length - 1) := HE9
              have e1 : Bc8 - 1 = 0 := by omega
              have HE8 : Hid (GS false w T8 (w8.setCell ⟨bb, 2, none⟩ (.slice (some ⟨g8, o8, none⟩) (B2.length - 1) 0)) sb nb mb bb V (unpL (some ⟨b', 0, none⟩) P2) I (G2 ++ unpR (some ⟨b', 0, none⟩) nb V P2) (B2.eraseIdx 0) k (j + 1) ∧ slLen ((w8.setCell ⟨bb, 2, none⟩ (.slice (some ⟨g8, o8, none⟩) (B2.length - 1) 0)).cell? ⟨bb, 2, none⟩) = B2.length - 1) := by
                have := HE.out
                rw [e1] at this
                exact this
              clear hT HE9 HEND HT9 HE e1
              go_wp2_with fail
              exact ⟨⟨T8, _, _, _, j + 1, HL9.out.1, HE8.out.1⟩, by rw [HE8.out.2, HM9.out]; omega⟩
            · have hT : PB false T8 w8 (some ⟨g8, o8 + 1, none⟩, B2.length - 1, Bc8 - 1) (B2.eraseIdx 0) := by
                have := HT9.out
                rw [if_neg hc1] at this
                exact this
              have HE9 := HEND.out _ _ hT
              have HE : Hid (GS false w T8 (w8.setCell ⟨bb, 2, none⟩ (.slice (some ⟨g8, o8 + 1, none⟩) (B2.length - 1) (Bc8 - 1))) sb nb mb bb V (unpL (some ⟨b', 0, none⟩) P2) I (G2 ++ unpR (some ⟨b', 0, none⟩) nb V P2) (B2.eraseIdx 0) k (j + 1) ∧ slLen ((w8.setCell ⟨bb, 2, none⟩ (.slice (some ⟨g8, o8 + 1, none⟩) (B2.length - 1) (Bc8 - 1))).cell? ⟨bb, 2, none⟩) = B2.length - 1) := HE9
              clear hT HE9 HEND HT9
              have hc2 : ¬ (Bc8 : Int) = 1 := by omega
              go_wp2_with fail
              exact ⟨⟨T8, _, _, _, j + 1, HL9.out.1, HE.out.1⟩, by rw [HE.out.2, HM9.out]; omega⟩
          · have hB1 : ¬ (0 : Int) < (B2.length : Int) := by omega
            have CR : Hid (Calls Try.prog 15 #[.pointer (some ⟨bb, 0, none⟩), .pointer (some ⟨sb, 0, none⟩)] wq fun e w' => e = .returned (.bool true) ∧ RowKit.Below w.heap.size w w') := (right_G HY.out hk3 (by omega)).mono fun e w' hp => ⟨hp.1, HY.out.set.old.below.trans (hp.2.mono HY.out.set.old.below.size)⟩
            clear hz oI oG oB
            go_wp2_with (go_at_call 15; go_loud (refine CR.out.mono ?_; rintro e w9 ⟨rfl, hb9⟩; have HB9 : Hid (RowKit.Below w.heap.size w w9) := hb9; clear hb9))
            go_ret
            exact ⟨rfl, HB9.out⟩
  · have q0 : (300 : Int) < (n : Int) := by omega
    go_enter Try.func3, Try.ntmps3
    go_wp2_with fail
    go_ret
    exact ⟨rfl, Below.refl _ _⟩
end Vr
end Go.Proofs.Ytecgecolghgjoaa
