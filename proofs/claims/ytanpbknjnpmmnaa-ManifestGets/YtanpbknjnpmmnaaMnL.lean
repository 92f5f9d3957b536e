import Derived.Test.YtanpbknjnpmmnaaCBackM
import Derived.Test.YtanpbknjnpmmnaaByt
namespace Go.Proofs.Ytanpbknjnpmmnaa
namespace Mnf
open CMath Byt
set_option linter.unusedVariables false

abbrev Pl := Int × Nat
structure Pd where
  lv : Int
  no : Nat
  we : Int
  by_ : Int
  en : Int
  le : ByteArray
  gr : ByteArray
/-- an edit -/
structure Ed where
  log : Nat
  nxt : Nat
  seq : Nat
  out : List Pl
  inn : List Pd
  ptr : List ByteArray
def noE : Ed := ⟨0, 0, 0, [], [], []⟩
def M64 : Nat := 18446744073709551615
def M63 : Nat := 9223372036854775807

/-- A reader and what it reads: what was written is read again, and what is read was written so. -/
structure Rdr {α : Type} (one : List Nat → Option (α × List Nat)) (enc : α → List Nat) (ok : α → Prop) : Prop where
  back : ∀ x more, ok x → one (enc x ++ more) = some (x, more)
  form : ∀ l x more, (∀ c ∈ l, c < 256) → one l = some (x, more) → l = enc x ++ more ∧ ok x

theorem bytes_right {a b : List Nat} (h : ∀ c ∈ a ++ b, c < 256) : ∀ c ∈ b, c < 256 := fun c hc => h c (List.mem_append_right _ hc)

def rdN (most : Nat) (l : List Nat) : Option (Nat × List Nat) := if (rd l 0 0).2.2 = 0 ∧ (rd l 0 0).1 ≤ most then some ((rd l 0 0).1, l.drop (rd l 0 0).2.1) else none
theorem rdN_is (most : Nat) (hm : most ≤ M64) : Rdr (rdN most) num (· ≤ most) where
  back x more hx := by
    have e := rd_words x more (by unfold M64 at hm; omega)
    unfold rdN
    rw [e]
    dsimp only
    rw [if_pos ⟨rfl, hx⟩, drop_len]
  form l x more hb h := by
    unfold rdN at h
    obtain ⟨⟨n, k, f⟩, hr⟩ : ∃ x, rd l 0 0 = x := ⟨_, rfl⟩
    rw [hr] at h
    dsimp only at h
    split at h
    · rename_i hc
      obtain ⟨rfl, hn⟩ := hc
      cases h
      obtain ⟨h1, h2, h3⟩ := rd_ok0 hb hr
      exact ⟨by rw [← h3]; exact (List.take_append_drop _ _).symm, hn⟩
    · cases h
def rdI (most : Nat) (l : List Nat) : Option (Int × List Nat) := (rdN most l).map fun x => ((x.1 : Int), x.2)
theorem rdI_is (most : Nat) (hm : most ≤ M64) : Rdr (rdI most) (fun x => num x.toNat) (fun x => 0 ≤ x ∧ x ≤ most) where
  back x more hx := by
    have e := (rdN_is most hm).back x.toNat more (by omega)
    unfold rdI
    rw [e]
    simp
    omega
  form l x more hb h := by
    unfold rdI at h
    cases e : rdN most l with
    | none => rw [e] at h; cases h
    | some y =>
      rw [e] at h
      obtain ⟨n, r⟩ := y
      simp only [Option.map_some, Option.some.injEq, Prod.mk.injEq] at h
      obtain ⟨rfl, rfl⟩ := h
      obtain ⟨h1, h2⟩ := (rdN_is most hm).form l n r hb e
      exact ⟨by simpa using h1, by omega, by omega⟩
def rdK (l : List Nat) : Option (ByteArray × List Nat) := if (text l 64).2.2 = 0 then some (ofB (text l 64).1, l.drop (text l 64).2.1) else none
def keyB (s : ByteArray) : List Nat := words (strB s)
theorem ofB_strB (s : ByteArray) : ofB (strB s) = s := strB_inj (strB_ofB (strB_byte s))
theorem rdK_is : Rdr rdK keyB (fun s => s.size ≤ 64) where
  back x more hx := by
    have l1 := strB_length x
    have e := text_back (strB x) more 64 (by omega) (by omega)
    unfold rdK keyB
    rw [e]
    dsimp only
    rw [if_pos rfl, drop_len, ofB_strB]
  form l x more hb h := by
    unfold rdK at h
    obtain ⟨⟨s, k, f⟩, hr⟩ : ∃ x, text l 64 = x := ⟨_, rfl⟩
    rw [hr] at h
    dsimp only at h
    split at h
    · rename_i hc
      subst hc
      cases h
      obtain ⟨h1, h2, h3, h4, h5, _⟩ := text_form hb hr
      have hs : ∀ c ∈ s, c < 256 := fun c hc => hb c (by
        have : c ∈ l.take k := by rw [h4]; exact List.mem_append_right _ hc
        exact List.mem_of_mem_take this)
      refine ⟨?_, ?_⟩
      · unfold keyB
        rw [strB_ofB hs, ← h4]
        exact (List.take_append_drop _ _).symm
      · have := strB_length (ofB s)
        rw [strB_ofB hs] at this
        omega
    · cases h
variable {α β : Type}
def rd2 (o1 : List Nat → Option (α × List Nat)) (o2 : List Nat → Option (β × List Nat)) (l : List Nat) : Option ((α × β) × List Nat) :=
  (o1 l).bind fun x => (o2 x.2).map fun y => ((x.1, y.1), y.2)
theorem rd2_is {o1 : List Nat → Option (α × List Nat)} {o2 : List Nat → Option (β × List Nat)} {e1 : α → List Nat} {e2 : β → List Nat} {k1 : α → Prop} {k2 : β → Prop} (h1 : Rdr o1 e1 k1) (h2 : Rdr o2 e2 k2) : Rdr (rd2 o1 o2) (fun p => e1 p.1 ++ e2 p.2) (fun p => k1 p.1 ∧ k2 p.2) where
  back x more hx := by
    unfold rd2
    rw [List.append_assoc, h1.back _ _ hx.1]
    simp [h2.back _ _ hx.2]
  form l x more hb h := by
    unfold rd2 at h
    cases a : o1 l with
    | none => rw [a] at h; cases h
    | some y =>
      rw [a] at h
      obtain ⟨y1, y2⟩ := y
      simp only [Option.bind_some] at h
      obtain ⟨q1, q2⟩ := h1.form l y1 y2 hb a
      cases c : o2 y2 with
      | none => rw [c] at h; cases h
      | some z =>
        rw [c] at h
        obtain ⟨z1, z2⟩ := z
        simp only [Option.map_some, Option.some.injEq, Prod.mk.injEq] at h
        obtain ⟨rfl, rfl⟩ := h
        obtain ⟨q3, q4⟩ := h2.form y2 z1 z2 (bytes_right (by rw [← q1]; exact hb)) c
        exact ⟨by rw [q1, q3]; simp, q2, q4⟩
def rdMap (f : α → β) (o : List Nat → Option (α × List Nat)) (l : List Nat) : Option (β × List Nat) := (o l).map fun x => (f x.1, x.2)
theorem rdMap_is {f : α → β} {g : β → α} (hfg : ∀ y, f (g y) = y) (hgf : ∀ x, g (f x) = x) {o : List Nat → Option (α × List Nat)} {e : α → List Nat} {k : α → Prop} (h : Rdr o e k) : Rdr (rdMap f o) (fun y => e (g y)) (fun y => k (g y)) where
  back x more hx := by unfold rdMap; rw [h.back _ _ hx]; simp [hfg]
  form l x more hb hh := by
    unfold rdMap at hh
    cases a : o l with
    | none => rw [a] at hh; cases hh
    | some y =>
      rw [a] at hh
      obtain ⟨y1, y2⟩ := y
      simp only [Option.map_some, Option.some.injEq, Prod.mk.injEq] at hh
      obtain ⟨rfl, rfl⟩ := hh
      obtain ⟨q1, q2⟩ := h.form l y1 y2 hb a
      exact ⟨by rw [hgf]; exact q1, by rw [hgf]; exact q2⟩
def rdL (o : List Nat → Option (α × List Nat)) : Nat → List Nat → Option (List α × List Nat)
  | 0, l => some ([], l)
  | n + 1, l => (o l).bind fun x => (rdL o n x.2).map fun y => (x.1 :: y.1, y.2)
theorem rdL_back {o : List Nat → Option (α × List Nat)} {e : α → List Nat} {k : α → Prop} (h : Rdr o e k) (xs : List α) (more : List Nat) : (∀ x ∈ xs, k x) → rdL o xs.length (xs.flatMap e ++ more) = some (xs, more) := by
  induction xs with
  | nil => intro _; simp [rdL]
  | cons x xs ih =>
    intro hx
    have e2 := ih (fun y hy => hx y (List.mem_cons_of_mem _ hy))
    have e1 := h.back x (xs.flatMap e ++ more) (hx x (List.mem_cons_self ..))
    simp [rdL, e1, e2]
theorem rdL_form {o : List Nat → Option (α × List Nat)} {e : α → List Nat} {k : α → Prop} (h : Rdr o e k) : ∀ (n : Nat) (l : List Nat) (xs : List α) (more : List Nat), (∀ c ∈ l, c < 256) → rdL o n l = some (xs, more) → xs.length = n ∧ l = xs.flatMap e ++ more ∧ ∀ x ∈ xs, k x := by
  intro n
  induction n with
  | zero => intro l xs more _ hh; simp only [rdL, Option.some.injEq, Prod.mk.injEq] at hh; obtain ⟨rfl, rfl⟩ := hh; simp
  | succ n ih =>
    intro l xs more hb hh
    unfold rdL at hh
    cases a : o l with
    | none => rw [a] at hh; cases hh
    | some y =>
      rw [a] at hh
      obtain ⟨y1, y2⟩ := y
      simp only [Option.bind_some] at hh
      obtain ⟨q1, q2⟩ := h.form l y1 y2 hb a
      cases c : rdL o n y2 with
      | none => rw [c] at hh; cases hh
      | some z =>
        rw [c] at hh
        obtain ⟨z1, z2⟩ := z
        simp only [Option.map_some, Option.some.injEq, Prod.mk.injEq] at hh
        obtain ⟨rfl, rfl⟩ := hh
        obtain ⟨q3, q4, q5⟩ := ih y2 z1 z2 (bytes_right (by rw [← q1]; exact hb)) c
        refine ⟨by simp [q3], by rw [q1, q4]; simp, fun x hx => ?_⟩
        rcases List.mem_cons.1 hx with rfl | hx
        · exact q2
        · exact q5 x hx
def rdLst (o : List Nat → Option (α × List Nat)) (most : Nat) (l : List Nat) : Option (List α × List Nat) := (rdN most l).bind fun n => rdL o n.1 n.2
def lstB (e : α → List Nat) (xs : List α) : List Nat := num xs.length ++ xs.flatMap e
theorem rdLst_is {o : List Nat → Option (α × List Nat)} {e : α → List Nat} {k : α → Prop} (h : Rdr o e k) (most : Nat) (hm : most ≤ M64) : Rdr (rdLst o most) (lstB e) (fun xs => xs.length ≤ most ∧ ∀ x ∈ xs, k x) where
  back x more hx := by
    unfold rdLst lstB
    rw [List.append_assoc, (rdN_is most hm).back _ _ hx.1]
    exact rdL_back h x more hx.2
  form l x more hb hh := by
    unfold rdLst at hh
    cases a : rdN most l with
    | none => rw [a] at hh; cases hh
    | some y =>
      rw [a] at hh
      obtain ⟨y1, y2⟩ := y
      simp only [Option.bind_some] at hh
      obtain ⟨q1, q2⟩ := (rdN_is most hm).form l y1 y2 hb a
      obtain ⟨q3, q4, q5⟩ := rdL_form h y1 y2 x more (bytes_right (by rw [← q1]; exact hb)) hh
      subst q3
      exact ⟨by unfold lstB; rw [List.append_assoc, ← q4]; exact q1, q2, q5⟩

/-! The parts of a record. -/
def plB (p : Pl) : List Nat := num p.1.toNat ++ num p.2
def okPl (p : Pl) : Prop := (0 ≤ p.1 ∧ p.1 ≤ (4 : Nat)) ∧ p.2 ≤ M64
def rdPl : List Nat → Option (Pl × List Nat) := rd2 (rdI 4) (rdN M64)
theorem rdPl_is : Rdr rdPl plB okPl := rd2_is (rdI_is 4 (by decide)) (rdN_is M64 (Nat.le_refl _))
abbrev Tup := (Pl × (Int × (Int × Int))) × (ByteArray × ByteArray)
def ofT (t : Tup) : Pd := ⟨t.1.1.1, t.1.1.2, t.1.2.1, t.1.2.2.1, t.1.2.2.2, t.2.1, t.2.2⟩
def toT (p : Pd) : Tup := (((p.lv, p.no), (p.we, (p.by_, p.en))), (p.le, p.gr))
def rdT : List Nat → Option (Tup × List Nat) := rd2 (rd2 rdPl (rd2 (rdI M63) (rd2 (rdI M63) (rdI M63)))) (rd2 rdK rdK)
def rdPd : List Nat → Option (Pd × List Nat) := rdMap ofT rdT
def pdB (p : Pd) : List Nat := ((num p.lv.toNat ++ num p.no) ++ (num p.we.toNat ++ (num p.by_.toNat ++ num p.en.toNat))) ++ (keyB p.le ++ keyB p.gr)
def okSz (x : Int) : Prop := 0 ≤ x ∧ x ≤ (M63 : Nat)
def okPd (p : Pd) : Prop := (okPl (p.lv, p.no) ∧ okSz p.we ∧ okSz p.by_ ∧ okSz p.en) ∧ p.le.size ≤ 64 ∧ p.gr.size ≤ 64
theorem rdPd_is : Rdr rdPd pdB okPd :=
  rdMap_is (g := toT) (fun _ => rfl) (fun _ => rfl) (rd2_is (rd2_is rdPl_is (rd2_is (rdI_is M63 (by decide)) (rd2_is (rdI_is M63 (by decide)) (rdI_is M63 (by decide))))) (rd2_is rdK_is rdK_is))
def rdRo : List Nat → Option ((Nat × (Nat × Nat)) × List Nat) := rd2 (rdN M64) (rd2 (rdN M64) (rdN M64))
theorem rdRo_is : Rdr rdRo (fun p => num p.1 ++ (num p.2.1 ++ num p.2.2)) (fun p => p.1 ≤ M64 ∧ p.2.1 ≤ M64 ∧ p.2.2 ≤ M64) := rd2_is (rdN_is M64 (Nat.le_refl _)) (rd2_is (rdN_is M64 (Nat.le_refl _)) (rdN_is M64 (Nat.le_refl _)))

/-! A record. -/
def tabs (e : Ed) : Nat := e.out.length + e.inn.length
def bit (b : Bool) : Nat := if b then 1 else 0
def recB (last : Bool) (e : Ed) : List Nat := bit last :: ((num e.log ++ (num e.nxt ++ num e.seq)) ++ (lstB plB e.out ++ (lstB pdB e.inn ++ lstB keyB e.ptr)))
/-- what is left behind the first byte -/
def rdBody (last : Bool) (l : List Nat) : Option Ed :=
  (rdRo l).bind fun r => (rdLst rdPl 256 r.2).bind fun o => (rdLst rdPd (256 - o.1.length) o.2).bind fun i => (rdLst rdK 5 i.2).bind fun p =>
    if p.2 ≠ [] ∨ (last = false ∧ ¬ (o.1.length + i.1.length = 256 ∧ p.1 = [])) then none else some ⟨r.1.1, r.1.2.1, r.1.2.2, o.1, i.1, p.1⟩
def rdRec (l : List Nat) : Option (Bool × Ed) :=
  match l with
  | [] => none
  | c :: r => if c = 0 then (rdBody false r).map fun e => (false, e) else if c = 1 then (rdBody true r).map fun e => (true, e) else none
/-- an edit that may be written -/
def okE (e : Ed) : Prop := (e.log ≤ M64 ∧ e.nxt ≤ M64 ∧ e.seq ≤ M64) ∧ (∀ p ∈ e.out, okPl p) ∧ (∀ p ∈ e.inn, okPd p) ∧ (∀ s ∈ e.ptr, s.size ≤ 64) ∧ e.ptr.length ≤ 5
/-- what a record may tell -/
def okR (last : Bool) (e : Ed) : Prop := okE e ∧ tabs e ≤ 256 ∧ (last = false → tabs e = 256 ∧ e.ptr = [])
theorem rdBody_back (last : Bool) (e : Ed) (h : okR last e) : rdBody last ((num e.log ++ (num e.nxt ++ num e.seq)) ++ (lstB plB e.out ++ (lstB pdB e.inn ++ lstB keyB e.ptr))) = some e := by
  obtain ⟨⟨h1, h2, h3, h4, h5⟩, h6, h7⟩ := h
  unfold tabs at h6 h7
  have e1 := rdRo_is.back (e.log, e.nxt, e.seq) (lstB plB e.out ++ (lstB pdB e.inn ++ lstB keyB e.ptr)) h1
  have e2 := (rdLst_is rdPl_is 256 (by decide)).back e.out (lstB pdB e.inn ++ lstB keyB e.ptr) ⟨by omega, h2⟩
  have e3 := (rdLst_is rdPd_is (256 - e.out.length) (by unfold M64; omega)).back e.inn (lstB keyB e.ptr) ⟨by omega, h3⟩
  have e4 := (rdLst_is rdK_is 5 (by decide)).back e.ptr [] ⟨h5, h4⟩
  rw [List.append_nil] at e4
  unfold rdBody
  simp only [] at e1
  rw [e1]
  simp only [Option.bind_some]
  rw [e2]
  simp only [Option.bind_some]
  rw [e3]
  simp only [Option.bind_some]
  rw [e4]
  simp only [Option.bind_some]
  rw [if_neg]
  rintro (hc | ⟨hl, hc⟩)
  · exact hc rfl
  · exact hc (h7 hl)
theorem rdRec_back (last : Bool) (e : Ed) (h : okR last e) : rdRec (recB last e) = some (last, e) := by
  have e1 := rdBody_back last e h
  cases last <;> simpa [bit, rdRec, recB] using e1
theorem rdBody_form (last : Bool) (l : List Nat) (e : Ed) (hb : ∀ c ∈ l, c < 256) (h : rdBody last l = some e) : l = (num e.log ++ (num e.nxt ++ num e.seq)) ++ (lstB plB e.out ++ (lstB pdB e.inn ++ lstB keyB e.ptr)) ∧ okR last e := by
  unfold rdBody at h
  cases a1 : rdRo l with
  | none => rw [a1] at h; cases h
  | some r =>
    rw [a1] at h
    obtain ⟨⟨r1, r2, r3⟩, r4⟩ := r
    simp only [Option.bind_some] at h
    obtain ⟨q1, q2⟩ := rdRo_is.form l _ _ hb a1
    have b1 : ∀ c ∈ r4, c < 256 := bytes_right (by rw [← q1]; exact hb)
    cases a2 : rdLst rdPl 256 r4 with
    | none => rw [a2] at h; cases h
    | some o =>
      rw [a2] at h
      obtain ⟨o1, o2⟩ := o
      simp only [Option.bind_some] at h
      obtain ⟨q3, q4⟩ := (rdLst_is rdPl_is 256 (by decide)).form r4 _ _ b1 a2
      have b2 : ∀ c ∈ o2, c < 256 := bytes_right (by rw [← q3]; exact b1)
      cases a3 : rdLst rdPd (256 - o1.length) o2 with
      | none => rw [a3] at h; cases h
      | some i =>
        rw [a3] at h
        obtain ⟨i1, i2⟩ := i
        simp only [Option.bind_some] at h
        obtain ⟨q5, q6⟩ := (rdLst_is rdPd_is (256 - o1.length) (by unfold M64; omega)).form o2 _ _ b2 a3
        have b3 : ∀ c ∈ i2, c < 256 := bytes_right (by rw [← q5]; exact b2)
        cases a4 : rdLst rdK 5 i2 with
        | none => rw [a4] at h; cases h
        | some p =>
          rw [a4] at h
          obtain ⟨p1, p2⟩ := p
          simp only [Option.bind_some] at h
          obtain ⟨q7, q8⟩ := (rdLst_is rdK_is 5 (by decide)).form i2 _ _ b3 a4
          split at h
          · cases h
          · rename_i hc
            cases h
            have hp2 : p2 = [] := by
              by_cases hp : p2 = []
              · exact hp
              · exact absurd (Or.inl hp) hc
            subst hp2
            refine ⟨?_, ⟨q2, q4.2, q6.2, q8.2, q8.1⟩, ?_, fun hl => ?_⟩
            · rw [List.append_nil] at q7
              rw [q1, q3, q5, q7]
            · have := q4.1; have := q6.1
              show o1.length + i1.length ≤ 256
              omega
            · by_cases hh : o1.length + i1.length = 256 ∧ p1 = []
              · exact hh
              · exact absurd (Or.inr ⟨hl, hh⟩) hc
theorem rdRec_form (l : List Nat) (last : Bool) (e : Ed) (hb : ∀ c ∈ l, c < 256) (h : rdRec l = some (last, e)) : l = recB last e ∧ okR last e := by
  unfold rdRec at h
  cases l with
  | nil => cases h
  | cons c r =>
    have hr : ∀ c ∈ r, c < 256 := fun x hx => hb x (List.mem_cons_of_mem _ hx)
    dsimp only at h
    split at h
    · rename_i hc
      subst hc
      cases a : rdBody false r with
      | none => rw [a] at h; cases h
      | some e' =>
        rw [a] at h
        simp only [Option.map_some, Option.some.injEq, Prod.mk.injEq] at h
        obtain ⟨rfl, rfl⟩ := h
        obtain ⟨q1, q2⟩ := rdBody_form false r e' hr a
        exact ⟨by unfold recB bit; rw [← q1]; rfl, q2⟩
    · split at h
      · rename_i hc
        subst hc
        cases a : rdBody true r with
        | none => rw [a] at h; cases h
        | some e' =>
          rw [a] at h
          simp only [Option.map_some, Option.some.injEq, Prod.mk.injEq] at h
          obtain ⟨rfl, rfl⟩ := h
          obtain ⟨q1, q2⟩ := rdBody_form true r e' hr a
          exact ⟨by unfold recB bit; rw [← q1]; rfl, q2⟩
      · cases h

/-! An edit's records. -/
def nOut (e : Ed) : Nat := min e.out.length 256
def nIn (e : Ed) : Nat := min e.inn.length (256 - nOut e)
/-- what is left behind the first record -/
def restE (e : Ed) : Ed := { e with out := e.out.drop (nOut e), inn := e.inn.drop (nIn e) }
def lastE (e : Ed) : Bool := decide (tabs (restE e) = 0)
def firstE (e : Ed) : Ed := { e with out := e.out.take (nOut e), inn := e.inn.take (nIn e), ptr := if lastE e then e.ptr else [] }
theorem tabs_rest (e : Ed) : tabs (restE e) = tabs e - 256 := by
  unfold tabs restE nIn nOut
  simp
  omega
theorem lastE_iff (e : Ed) : lastE e = decide (tabs e ≤ 256) := by
  unfold lastE
  rw [tabs_rest]
  congr 1
  exact propext (by omega)
theorem tabs_first (e : Ed) : tabs (firstE e) = min (tabs e) 256 := by
  unfold tabs firstE nIn nOut
  simp
  omega
def putL : Nat → Ed → List (List Nat)
  | 0, _ => []
  | n + 1, e => recB (lastE e) (firstE e) :: (if lastE e then [] else putL n (restE e))
/-- enough rounds -/
theorem putL_more (n m : Nat) : ∀ e, tabs e ≤ 256 * n → n ≤ m → putL (n + 1) e = putL (m + 1) e := by
  induction n generalizing m with
  | zero =>
    intro e h _
    have hl : lastE e = true := by rw [lastE_iff]; exact decide_eq_true (by omega)
    simp [putL, hl]
  | succ n ih =>
    intro e h hm
    obtain ⟨m', rfl⟩ : ∃ m', m = m' + 1 := ⟨m - 1, by omega⟩
    have e1 := ih m' (restE e) (by rw [tabs_rest]; omega) (by omega)
    show recB (lastE e) (firstE e) :: (if lastE e then [] else putL (n + 1) (restE e)) = recB (lastE e) (firstE e) :: (if lastE e then [] else putL (m' + 1) (restE e))
    rw [e1]
def puts (e : Ed) : List (List Nat) := putL (tabs e + 1) e
theorem puts_eq (e : Ed) : puts e = recB (lastE e) (firstE e) :: (if lastE e then [] else puts (restE e)) := by
  unfold puts
  show recB (lastE e) (firstE e) :: (if lastE e then [] else putL (tabs e) (restE e)) = _
  by_cases hl : lastE e = true
  · simp [hl]
  · simp only [hl]
    congr 1
    have h1 : ¬ tabs e ≤ 256 := by
      intro h
      rw [lastE_iff, decide_eq_true h] at hl
      exact hl rfl
    obtain ⟨k, hk⟩ : ∃ k, tabs e = k + 1 := ⟨tabs e - 1, by omega⟩
    rw [hk]
    have := putL_more (tabs (restE e)) k (restE e) (by omega) (by rw [tabs_rest]; omega)
    simp only [if_neg Bool.false_ne_true]
    exact this.symm

def joinE (a b : Ed) : Ed := { b with out := a.out ++ b.out, inn := a.inn ++ b.inn }
theorem join_assoc (a b c : Ed) : joinE (joinE a b) c = joinE a (joinE b c) := by
  unfold joinE
  simp
theorem join_no (e : Ed) : joinE noE e = e := by unfold joinE noE; simp
/-- a full record, more behind it -/
theorem puts_full (r s : Ed) (h1 : tabs r = 256) (h2 : r.ptr = []) (h3 : 0 < tabs s) (h4 : r.inn = [] ∨ s.out = []) (h5 : r.log = s.log ∧ r.nxt = s.nxt ∧ r.seq = s.seq) : puts (joinE r s) = recB false r :: puts s := by
  have ht : tabs (joinE r s) = tabs r + tabs s := by unfold tabs joinE; simp; omega
  have hl : lastE (joinE r s) = false := by rw [lastE_iff]; exact decide_eq_false (by omega)
  obtain ⟨rl, rn, rs, ro, ri, rp⟩ := r
  obtain ⟨sl, sn, ss, so, si, sp⟩ := s
  simp only [] at h2 h4 h5
  obtain ⟨rfl, rfl, rfl⟩ := h5
  subst h2
  unfold tabs at h1
  simp only [] at h1
  have hO : nOut (joinE ⟨rl, rn, rs, ro, ri, []⟩ ⟨rl, rn, rs, so, si, sp⟩) = ro.length := by
    unfold nOut joinE
    simp only [List.length_append]
    rcases h4 with rfl | rfl
    · simp at h1; omega
    · simp; omega
  have hI : nIn (joinE ⟨rl, rn, rs, ro, ri, []⟩ ⟨rl, rn, rs, so, si, sp⟩) = ri.length := by
    unfold nIn
    rw [hO]
    unfold joinE
    simp only [List.length_append]
    omega
  have hf : firstE (joinE ⟨rl, rn, rs, ro, ri, []⟩ ⟨rl, rn, rs, so, si, sp⟩) = ⟨rl, rn, rs, ro, ri, []⟩ := by
    unfold firstE
    rw [hl, hO, hI]
    unfold joinE
    simp
  have hr : restE (joinE ⟨rl, rn, rs, ro, ri, []⟩ ⟨rl, rn, rs, so, si, sp⟩) = ⟨rl, rn, rs, so, si, sp⟩ := by
    unfold restE
    rw [hO, hI]
    unfold joinE
    simp
  rw [puts_eq, hl, hf, hr]
  simp
theorem puts_last (r : Ed) (h1 : tabs r ≤ 256) : puts r = [recB true r] := by
  have hl : lastE r = true := by rw [lastE_iff]; exact decide_eq_true h1
  have hf : firstE r = r := by
    have h2 : tabs (firstE r) = tabs r := by rw [tabs_first]; omega
    unfold firstE at h2 ⊢
    rw [hl]
    unfold tabs at h1 h2
    simp only [List.length_take] at h2
    obtain ⟨rl, rn, rs, ro, ri, rp⟩ := r
    simp only [] at h1 h2 ⊢
    rw [List.take_of_length_le (by omega), List.take_of_length_le (by omega)]
    rfl
  rw [puts_eq, hl, hf]
  simp
end Mnf
end Go.Proofs.Ytanpbknjnpmmnaa
namespace Go.Proofs.Ytanpbknjnpmmnaa
namespace Mnf
open CMath Byt
set_option linter.unusedVariables false

/-! Get. -/
def same3 (b r : Ed) : Bool := decide (r.log = b.log) && (decide (r.nxt = b.nxt) && decide (r.seq = b.seq))
def follows (b r : Ed) : Bool := decide (tabs b = 0) || (same3 b r && (decide (0 < tabs r) && (decide (b.inn.length = 0) || decide (r.out.length = 0))))
def gets : List (List Nat) → Ed → Option (List Ed)
  | [], _ => some []
  | l :: ls, b =>
    match rdRec l with
    | none => none
    | some x => if follows b x.2 then (if x.1 then (gets ls noE).map (joinE b x.2 :: ·) else gets ls (joinE b x.2)) else none
theorem gets_cons (l : List Nat) (ls : List (List Nat)) (b : Ed) : gets (l :: ls) b = match rdRec l with
    | none => none
    | some x => if follows b x.2 then (if x.1 then (gets ls noE).map (joinE b x.2 :: ·) else gets ls (joinE b x.2)) else none := rfl
theorem len0 {α : Type} {l : List α} : l.length = 0 ↔ l = [] := List.length_eq_zero_iff
theorem follows_yes {b r : Ed} (h : follows b r = true) : tabs b = 0 ∨ ((b.log = r.log ∧ b.nxt = r.nxt ∧ b.seq = r.seq) ∧ 0 < tabs r ∧ (b.inn = [] ∨ r.out = [])) := by
  unfold follows same3 at h
  simp only [Bool.or_eq_true, Bool.and_eq_true, decide_eq_true_eq, len0] at h
  rcases h with h | ⟨⟨h1, h2, h3⟩, h4, h5⟩
  · exact .inl h
  · exact .inr ⟨⟨h1.symm, h2.symm, h3.symm⟩, h4, h5⟩
theorem follows_of {b r : Ed} (h : tabs b = 0 ∨ ((b.log = r.log ∧ b.nxt = r.nxt ∧ b.seq = r.seq) ∧ 0 < tabs r ∧ (b.inn = [] ∨ r.out = []))) : follows b r = true := by
  unfold follows same3
  simp only [Bool.or_eq_true, Bool.and_eq_true, decide_eq_true_eq, len0]
  rcases h with h | ⟨⟨h1, h2, h3⟩, h4, h5⟩
  · exact .inl h
  · exact .inr ⟨⟨h1.symm, h2.symm, h3.symm⟩, h4, h5⟩
theorem tabs_join (a b : Ed) : tabs (joinE a b) = tabs a + tabs b := by unfold tabs joinE; simp; omega
theorem tabs0 {e : Ed} (h : tabs e = 0) : e.out = [] ∧ e.inn = [] := by
  unfold tabs at h
  exact ⟨len0.1 (by omega), len0.1 (by omega)⟩
theorem join_tabs0 {b r : Ed} (h : tabs b = 0) : joinE b r = r := by
  obtain ⟨h1, h2⟩ := tabs0 h
  unfold joinE
  rw [h1, h2]
  simp
theorem okE_join {a b : Ed} (ha : okE a) (hb : okE b) : okE (joinE a b) := by
  refine ⟨hb.1, fun p hp => ?_, fun p hp => ?_, hb.2.2.2⟩
  · rcases List.mem_append.1 hp with h | h
    · exact ha.2.1 p h
    · exact hb.2.1 p h
  · rcases List.mem_append.1 hp with h | h
    · exact ha.2.2.1 p h
    · exact hb.2.2.1 p h
theorem okE_no : okE noE := ⟨⟨by decide, by decide, by decide⟩, by simp [noE], by simp [noE], by simp [noE], by simp [noE]⟩
/-- an edit that is begun: its records so far -/
def Beg (b : Ed) (pre : List (List Nat)) : Prop :=
  okE b ∧ ((tabs b = 0 ∧ pre = []) ∨ (0 < tabs b ∧ ∀ s : Ed, (b.log = s.log ∧ b.nxt = s.nxt ∧ b.seq = s.seq) → 0 < tabs s → (b.inn = [] ∨ s.out = []) → puts (joinE b s) = pre ++ puts s))
theorem Beg.no : Beg noE [] := ⟨okE_no, .inl ⟨rfl, rfl⟩⟩
/-- one more record that isn't the last one -/
theorem Beg.more {b r : Ed} {pre : List (List Nat)} (h : Beg b pre) (hf : follows b r = true) (hr : okR false r) : Beg (joinE b r) (pre ++ [recB false r]) := by
  obtain ⟨h0, h⟩ := h
  obtain ⟨k1, k2, k3⟩ := hr
  obtain ⟨k4, k5⟩ := k3 rfl
  have hf := follows_yes hf
  refine ⟨okE_join h0 k1, .inr ⟨by rw [tabs_join]; omega, fun s h1 h2 h3 => ?_⟩⟩
  have h3a : r.inn = [] ∨ s.out = [] := by
    rcases h3 with h3 | h3
    · exact .inl (List.append_eq_nil_iff.1 h3).2
    · exact .inr h3
  have hfull := puts_full r s k4 k5 h2 h3a h1
  rcases h with ⟨hb, rfl⟩ | ⟨hb, h⟩
  · rw [join_tabs0 hb, List.nil_append, hfull]
    rfl
  · rcases hf with hf | ⟨q1, q2, q3⟩
    · omega
    · rw [join_assoc, h (joinE r s) ⟨q1.1.trans h1.1, q1.2.1.trans h1.2.1, q1.2.2.trans h1.2.2⟩ (by rw [tabs_join]; omega) ?_, hfull]
      · simp
      · rcases q3 with q3 | q3
        · exact .inl q3
        · by_cases hbi : b.inn = []
          · exact .inl hbi
          · rcases h3 with h3 | h3
            · exact absurd (List.append_eq_nil_iff.1 h3).1 hbi
            · right
              show r.out ++ s.out = []
              rw [q3, h3]
              rfl
/-- the last record -/
theorem Beg.last {b r : Ed} {pre : List (List Nat)} (h : Beg b pre) (hf : follows b r = true) (hr : okR true r) : puts (joinE b r) = pre ++ [recB true r] := by
  obtain ⟨h0, h⟩ := h
  have hp := puts_last r hr.2.1
  rcases h with ⟨hb, rfl⟩ | ⟨hb, h⟩
  · rw [join_tabs0 hb, hp]; rfl
  · rcases follows_yes hf with hf | ⟨q1, q2, q3⟩
    · omega
    · rw [h r q1 q2 q3, hp]
/-- P14.10: where Get answers OK, the records of its edits are what the records begin with. -/
theorem gets_form : ∀ (recs : List (List Nat)) (b : Ed) (pre : List (List Nat)) (es : List Ed), (∀ l ∈ recs, ∀ c ∈ l, c < 256) → Beg b pre → gets recs b = some es → (∃ tail, pre ++ recs = es.flatMap puts ++ tail) ∧ ∀ e ∈ es, okE e := by
  intro recs
  induction recs with
  | nil =>
    intro b pre es _ hB h
    simp only [gets, Option.some.injEq] at h
    subst h
    exact ⟨⟨pre, by simp⟩, by simp⟩
  | cons l ls ih =>
    intro b pre es hby hB h
    have hl := hby l (List.mem_cons_self ..)
    have hls := fun x hx => hby x (List.mem_cons_of_mem _ hx)
    unfold gets at h
    cases a : rdRec l with
    | none => rw [a] at h; cases h
    | some x =>
      obtain ⟨last, r⟩ := x
      rw [a] at h
      dsimp only at h
      obtain ⟨q1, q2⟩ := rdRec_form l last r hl a
      split at h
      · rename_i hf
        cases last with
        | true =>
          simp only [if_true] at h
          cases c : gets ls noE with
          | none => rw [c] at h; cases h
          | some es' =>
            rw [c] at h
            simp only [Option.map_some, Option.some.injEq] at h
            subst h
            obtain ⟨⟨tail, ht⟩, ho⟩ := ih noE [] es' hls Beg.no c
            have hp := hB.last hf q2
            refine ⟨⟨tail, ?_⟩, fun e he => ?_⟩
            · rw [List.nil_append] at ht
              rw [List.flatMap_cons, hp, q1, ht]
              simp
            · rcases List.mem_cons.1 he with rfl | he
              · exact okE_join hB.1 q2.1
              · exact ho e he
        | false =>
          simp only [if_neg Bool.false_ne_true] at h
          obtain ⟨⟨tail, ht⟩, ho⟩ := ih _ _ es hls (hB.more hf q2) h
          refine ⟨⟨tail, ?_⟩, ho⟩
          rw [← ht, q1]
          simp
      · cases h

theorem okR_first {e : Ed} (h : okE e) : okR (lastE e) (firstE e) := by
  refine ⟨⟨h.1, fun p hp => h.2.1 p (List.mem_of_mem_take hp), fun p hp => h.2.2.1 p (List.mem_of_mem_take hp), fun s hs => ?_, ?_⟩, by rw [tabs_first]; omega, fun hl => ?_⟩
  · unfold firstE at hs
    split at hs
    · exact h.2.2.2.1 s hs
    · simp at hs
  · unfold firstE
    split
    · exact h.2.2.2.2
    · simp
  · rw [tabs_first]
    rw [lastE_iff] at hl
    have := of_decide_eq_false hl
    refine ⟨by omega, ?_⟩
    unfold firstE
    rw [lastE_iff, hl]
    rfl
theorem okE_rest {e : Ed} (h : okE e) : okE (restE e) := ⟨h.1, fun p hp => h.2.1 p (List.mem_of_mem_drop hp), fun p hp => h.2.2.1 p (List.mem_of_mem_drop hp), h.2.2.2⟩
/-- may these records stand behind what is begun? -/
def Fol (b s : Ed) : Prop := tabs b = 0 ∨ ((b.log = s.log ∧ b.nxt = s.nxt ∧ b.seq = s.seq) ∧ 0 < tabs s ∧ (b.inn = [] ∨ s.out = []))
theorem Fol.first {b s : Ed} (h : Fol b s) : follows b (firstE s) = true := by
  refine follows_of ?_
  rcases h with h | ⟨h1, h2, h3⟩
  · exact .inl h
  · refine .inr ⟨h1, by rw [tabs_first]; omega, ?_⟩
    rcases h3 with h3 | h3
    · exact .inl h3
    · right
      show s.out.take _ = []
      rw [h3]
      simp
theorem first_last {s : Ed} (h : lastE s = true) : firstE s = s := by
  rw [lastE_iff] at h
  have h1 := of_decide_eq_true h
  have := puts_last s h1
  have hl : lastE s = true := by rw [lastE_iff]; exact h
  have h2 : tabs (firstE s) = tabs s := by rw [tabs_first]; omega
  unfold firstE at h2 ⊢
  rw [hl]
  unfold tabs at h1 h2
  simp only [List.length_take] at h2
  obtain ⟨rl, rn, rs, ro, ri, rp⟩ := s
  simp only [] at h1 h2 ⊢
  rw [List.take_of_length_le (by omega), List.take_of_length_le (by omega)]
  rfl
theorem join_first {b s : Ed} : joinE (joinE b (firstE s)) (restE s) = joinE b s := by
  unfold joinE firstE restE
  simp
theorem Fol.rest {b s : Ed} (h : Fol b s) (hl : lastE s = false) : Fol (joinE b (firstE s)) (restE s) := by
  rw [lastE_iff] at hl
  have ht := of_decide_eq_false hl
  refine .inr ⟨⟨rfl, rfl, rfl⟩, by rw [tabs_rest]; omega, ?_⟩
  by_cases ho : (restE s).out = []
  · exact .inr ho
  · left
    have h256 : 256 < s.out.length := by
      have : ¬ (s.out.drop (nOut s)).length = 0 := fun e => ho (len0.1 e)
      unfold nOut at this
      simp at this
      omega
    have hn : nIn s = 0 := by unfold nIn nOut; omega
    have hfi : (firstE s).inn = [] := by
      show s.inn.take (nIn s) = []
      rw [hn]
      simp
    show b.inn ++ (firstE s).inn = []
    rw [hfi, List.append_nil]
    rcases h with h | ⟨h1, h2, h3⟩
    · exact (tabs0 h).2
    · rcases h3 with h3 | h3
      · exact h3
      · rw [h3] at h256; simp at h256
/-- the records of an edit, read again -/
theorem gets_puts (n : Nat) : ∀ (s b : Ed) (more : List (List Nat)), tabs s ≤ n → okE s → Fol b s → gets (puts s ++ more) b = (gets more noE).map (joinE b s :: ·) := by
  induction n using Nat.strongRecOn with
  | _ n ih =>
    intro s b more hn ho hf
    rw [puts_eq]
    have e1 := rdRec_back (lastE s) (firstE s) (okR_first ho)
    have e2 := hf.first
    rw [List.cons_append, gets_cons, e1]
    dsimp only
    rw [if_pos e2]
    cases hl : lastE s with
    | true => simp [first_last hl]
    | false =>
      have ht := of_decide_eq_false (by rw [← lastE_iff]; exact hl)
      simp only [if_neg Bool.false_ne_true]
      rw [ih (tabs (restE s)) (by rw [tabs_rest]; omega) (restE s) _ more (Nat.le_refl _) (okE_rest ho) (hf.rest hl), join_first]
/-- P14.10 -/
theorem gets_all (es : List Ed) (more : List (List Nat)) : (∀ e ∈ es, okE e) → gets (es.flatMap puts ++ more) noE = (gets more noE).map (es ++ ·) := by
  induction es with
  | nil => intro _; simp
  | cons e es ih =>
    intro h
    rw [List.flatMap_cons, List.append_assoc, gets_puts (tabs e) e noE _ (Nat.le_refl _) (h e (List.mem_cons_self ..)) (.inl rfl), ih (fun x hx => h x (List.mem_cons_of_mem _ hx)), join_no, Option.map_map]
    rfl
theorem gets_part (n : Nat) : ∀ (s b : Ed) (j : Nat), tabs s ≤ n → okE s → Fol b s → j < (puts s).length → gets ((puts s).take j) b = some [] := by
  induction n using Nat.strongRecOn with
  | _ n ih =>
    intro s b j hn ho hf hj
    rw [puts_eq] at hj ⊢
    cases j with
    | zero => simp [gets]
    | succ j =>
      have e1 := rdRec_back (lastE s) (firstE s) (okR_first ho)
      have e2 := hf.first
      rw [List.take_succ_cons, gets_cons, e1]
      dsimp only
      rw [if_pos e2]
      cases hl : lastE s with
      | true => rw [hl] at hj; simp at hj
      | false =>
        rw [hl] at hj
        have ht := of_decide_eq_false (by rw [← lastE_iff]; exact hl)
        simp only [if_neg Bool.false_ne_true] at hj ⊢
        exact ih (tabs (restE s)) (by rw [tabs_rest]; omega) (restE s) _ j (Nat.le_refl _) (okE_rest ho) (hf.rest hl) (by simpa using hj)
/-- how many edits are there whole among the first n records -/
def wholes : List Ed → Nat → Nat
  | [], _ => 0
  | e :: es, n => if (puts e).length ≤ n then wholes es (n - (puts e).length) + 1 else 0
theorem gets_first : ∀ (es : List Ed) (n : Nat), (∀ e ∈ es, okE e) → gets ((es.flatMap puts).take n) noE = some (es.take (wholes es n)) := by
  intro es
  induction es with
  | nil => intro n _; simp [gets]
  | cons e es ih =>
    intro n h
    have h0 := h e (List.mem_cons_self ..)
    unfold wholes
    rw [List.flatMap_cons]
    split
    · rename_i hle
      rw [List.take_append, List.take_of_length_le hle, gets_puts (tabs e) e noE _ (Nat.le_refl _) h0 (.inl rfl), ih _ (fun x hx => h x (List.mem_cons_of_mem _ hx)), join_no]
      simp
    · rename_i hle
      rw [List.take_append_of_le_length (by omega), gets_part (tabs e) e noE n (Nat.le_refl _) h0 (.inl rfl) (by omega)]
      simp
end Mnf
end Go.Proofs.Ytanpbknjnpmmnaa
namespace Go.Proofs.Ytanpbknjnpmmnaa
namespace Mnf
open CMath Byt
set_option linter.unusedVariables false
/-! How many records, how long (P14.5, P14.12). -/
theorem puts_len (n : Nat) : ∀ e, tabs e ≤ n → (puts e).length = max 1 ((tabs e + 255) / 256) := by
  induction n using Nat.strongRecOn with
  | _ n ih =>
    intro e hn
    rw [puts_eq]
    cases hl : lastE e with
    | true =>
      have := of_decide_eq_true (by rw [← lastE_iff]; exact hl)
      simp
      omega
    | false =>
      have ht := of_decide_eq_false (by rw [← lastE_iff]; exact hl)
      have h1 := ih (tabs (restE e)) (by rw [tabs_rest]; omega) (restE e) (Nat.le_refl _)
      have h2 := tabs_rest e
      simp only [if_neg Bool.false_ne_true, List.length_cons, h1]
      omega
theorem flat_len {α : Type} {f : α → List Nat} {c : Nat} (l : List α) (h : ∀ x ∈ l, (f x).length ≤ c) : (l.flatMap f).length ≤ l.length * c := by
  induction l with
  | nil => simp
  | cons x l ih =>
    have h1 := h x (List.mem_cons_self ..)
    have h2 := ih (fun y hy => h y (List.mem_cons_of_mem _ hy))
    rw [List.flatMap_cons, List.length_append, List.length_cons, Nat.succ_mul]
    omega
theorem num10 {n : Nat} (h : n ≤ M64) : (num n).length ≤ 10 := num_le10 (by unfold M64 at h; omega)
theorem key_len {s : ByteArray} (h : s.size ≤ 64) : (keyB s).length ≤ 74 := by
  have l1 := strB_length s
  have := num10 (n := (strB s).length) (by unfold M64; omega)
  unfold keyB words
  rw [List.length_append]
  omega
theorem pl_len {p : Pl} (h : okPl p) : (plB p).length ≤ 20 := by
  obtain ⟨⟨h1, h2⟩, h3⟩ := h
  have q1 := num10 (n := p.1.toNat) (by unfold M64; omega)
  have q2 := num10 h3
  unfold plB
  rw [List.length_append]
  omega
theorem sz_len {x : Int} (h : okSz x) : (num x.toNat).length ≤ 10 := by
  obtain ⟨h1, h2⟩ := h
  exact num10 (by unfold M63 at h2; unfold M64; omega)
theorem pd_len {p : Pd} (h : okPd p) : (pdB p).length ≤ 198 := by
  obtain ⟨⟨⟨⟨h1, h1b⟩, h2⟩, h3, h4, h5⟩, h6, h7⟩ := h
  have q1 := num10 (n := p.lv.toNat) (by unfold M64; simp only [] at h1b; omega)
  have q2 := num10 h2
  have q3 := sz_len h3
  have q4 := sz_len h4
  have q5 := sz_len h5
  have q6 := key_len h6
  have q7 := key_len h7
  simp only [] at q2
  unfold pdB
  simp only [List.length_append]
  omega
/-- P14.12 -/
theorem rec_len {last : Bool} {e : Ed} (h : okR last e) : 0 < (recB last e).length ∧ (recB last e).length < 262144 := by
  obtain ⟨⟨⟨a1, a2, a3⟩, h2, h3, h4, h5⟩, h6, _⟩ := h
  unfold tabs at h6
  have q1 := num10 a1
  have q2 := num10 a2
  have q3 := num10 a3
  have q4 := num10 (n := e.out.length) (by unfold M64; omega)
  have q5 := num10 (n := e.inn.length) (by unfold M64; omega)
  have q6 := num10 (n := e.ptr.length) (by unfold M64; omega)
  have q7 := flat_len (f := plB) e.out (fun x hx => pl_len (h2 x hx))
  have q8 := flat_len (f := pdB) e.inn (fun x hx => pd_len (h3 x hx))
  have q9 := flat_len (f := keyB) e.ptr (fun x hx => key_len (h4 x hx))
  unfold recB lstB
  simp only [List.length_cons, List.length_append]
  omega
theorem rec_head (last : Bool) (e : Ed) : ∃ r, recB last e = bit last :: r := ⟨_, rfl⟩
/-- all records of an edit -/
theorem puts_at (n : Nat) : ∀ (e : Ed) (k : Nat) (l : List Nat), tabs e ≤ n → okE e → (puts e)[k]? = some l → 0 < l.length ∧ l.length < 262144 ∧ l[0]? = some (bit (decide (k + 1 = (puts e).length))) := by
  induction n using Nat.strongRecOn with
  | _ n ih =>
    intro e k l hn ho hk
    have hr := rec_len (okR_first ho)
    rw [puts_eq] at hk
    cases k with
    | zero =>
      simp only [List.getElem?_cons_zero, Option.some.injEq] at hk
      subst hk
      refine ⟨hr.1, hr.2, ?_⟩
      have : lastE e = decide (0 + 1 = (puts e).length) := by
        rw [puts_len _ e (Nat.le_refl _), lastE_iff]
        congr 1
        exact propext (by omega)
      rw [← this]
      rfl
    | succ k =>
      rw [List.getElem?_cons_succ] at hk
      cases hl : lastE e with
      | true => rw [hl] at hk; simp at hk
      | false =>
        have ht := of_decide_eq_false (by rw [← lastE_iff]; exact hl)
        rw [hl] at hk
        simp only [if_neg Bool.false_ne_true] at hk
        have h1 := ih (tabs (restE e)) (by rw [tabs_rest]; omega) (restE e) k l (Nat.le_refl _) (okE_rest ho) hk
        have h2 : (puts e).length = (puts (restE e)).length + 1 := by rw [puts_eq, hl]; simp
        have h3 : decide (k + 1 + 1 = (puts e).length) = decide (k + 1 = (puts (restE e)).length) := by
          rw [h2]
          congr 1
          exact propext (by omega)
        rw [h3]
        exact h1
theorem num_byte' (n : Nat) : ∀ x ∈ num n, x < 256 := num_byte n
theorem flat_byte {α : Type} {f : α → List Nat} (l : List α) (h : ∀ x ∈ l, ∀ c ∈ f x, c < 256) : ∀ c ∈ l.flatMap f, c < 256 := by
  intro c hc
  obtain ⟨y, hy, hc⟩ := List.mem_flatMap.1 hc
  exact h y hy c hc
theorem app_byte {a b : List Nat} (ha : ∀ c ∈ a, c < 256) (hb : ∀ c ∈ b, c < 256) : ∀ c ∈ a ++ b, c < 256 := fun c hc => (List.mem_append.1 hc).elim (ha c) (hb c)
theorem key_byte (s : ByteArray) : ∀ c ∈ keyB s, c < 256 := app_byte (num_byte _) (strB_byte s)
theorem lst_byte {α : Type} {f : α → List Nat} (l : List α) (h : ∀ x ∈ l, ∀ c ∈ f x, c < 256) : ∀ c ∈ lstB f l, c < 256 := app_byte (num_byte _) (flat_byte l h)
theorem pl_byte (p : Pl) : ∀ c ∈ plB p, c < 256 := app_byte (num_byte _) (num_byte _)
theorem pd_byte (p : Pd) : ∀ c ∈ pdB p, c < 256 := app_byte (app_byte (app_byte (num_byte _) (num_byte _)) (app_byte (num_byte _) (app_byte (num_byte _) (num_byte _)))) (app_byte (key_byte _) (key_byte _))
theorem rec_byte (last : Bool) (e : Ed) : ∀ c ∈ recB last e, c < 256 := by
  intro c hc
  rcases List.mem_cons.1 hc with rfl | hc
  · unfold bit; split <;> omega
  · exact app_byte (app_byte (num_byte _) (app_byte (num_byte _) (num_byte _))) (app_byte (lst_byte _ (fun x _ => pl_byte x)) (app_byte (lst_byte _ (fun x _ => pd_byte x)) (lst_byte _ (fun x _ => key_byte x)))) c hc
end Mnf
end Go.Proofs.Ytanpbknjnpmmnaa
