import Derived.Test.YtecgecolghgjoaaZu
namespace Go.Proofs.Ytecgecolghgjoaa
namespace Vr
open Go.Shelf Go.RowKit Go.Lib Go.Sort Go.Maps Go.ChangeMaps Go.MapKept Laws Irw Crw
set_option linter.unusedVariables false
set_option linter.unusedSimpArgs false
set_option maxRecDepth 20000
/-- one call of a script, as it lies -/
structure Oq where
  kd : Int
  n : Int
  lv : Int
  fr : ByteArray
  tx : ByteArray
  x : Int
  y : Int
  z : Int
  o : Sv
  i : Sv
  p : Sv
  sec : Bool
def oqC (q : Oq) : List Value := [.int .i64 q.kd, .int .i64 q.n, .int .i64 q.lv, .string q.fr, .string q.tx, .int .u64 q.x, .int .u64 q.y, .int .u64 q.z, svV q.o, svV q.i, svV q.p, .bool q.sec]
def kOq : Knd Oq := ⟨40, 12, 128, .agg #[.int .i64 0, .int .i64 0, .int .i64 0, .string ⟨#[]⟩, .string ⟨#[]⟩, .int .u64 0, .int .u64 0, .int .u64 0, .slice none 0 0, .slice none 0 0, .slice none 0 0, .bool false], oqC, fun _ => rfl, fun x u hu => by simp [oqC, svV] at hu; rcases hu with rfl | rfl | rfl | rfl | rfl | rfl | rfl | rfl | rfl | rfl | rfl | rfl <;> rfl, by omega, rfl, by omega⟩
/-- an edit that is handed in -/
structure EdK (w : World) (q : Oq) (O : List Pc) (l : List Pi) (pts : List ByteArray) : Prop where
  lo : Ls kPc w q.o O
  li : Ls kPi w q.i l
  lp : Ls kT w q.p pts
  no : O.length ≤ Z48
  ni : l.length ≤ Z48
  np : pts.length ≤ Z48
  si : ∀ p ∈ l, p.t.le.size ≤ Z48 ∧ p.t.gr.size ≤ Z48
  sp : ∀ p ∈ pts, p.size ≤ Z48
  ok : PiOk l
  on : ∀ p ∈ O, p.no < U64
theorem EdK.below {w w' : World} {q : Oq} {O : List Pc} {l : List Pi} {pts : List ByteArray} (h : EdK w q O l pts) (hb : RowKit.Below w.heap.size w w') : EdK w' q O l pts :=
  ⟨h.lo.below hb, h.li.below hb, h.lp.below hb, h.no, h.ni, h.np, h.si, h.sp, h.ok, h.on⟩
/-- the calls of a script that is handed in -/
def Scr (w : World) (a : Option Addr) (S : List Oq) : Prop := IsK kOq w a S ∧ ∀ q ∈ S, ∃ O l pts, EdK w q O l pts
/-- what is known of a set in the statements' loops -/
structure SetK (w0 : World) (T : Nat → Nat) (w : World) (sb vb mb : Nat) (V : Lv) (P : List Pn) (k : Nat) : Prop where
  set : PAt T w sb vb mb V P
  old : Old w0 T w
  good : Good V
  num : NumOk V
  len : 1 ≤ V.length
  cnt : (nums V).length ≤ k * 8192
theorem SetK.below {w0 w w' : World} {T : Nat → Nat} {sb vb mb : Nat} {V : Lv} {P : List Pn} {k : Nat} (h : SetK w0 T w sb vb mb V P k) (hb : RowKit.Below w.heap.size w w') : SetK w0 T w' sb vb mb V P k :=
  ⟨h.set.below hb, h.old.goes (Goes.below (t := fun _ => False) hb) (fun z => z), h.good, h.num, h.len, h.cnt⟩
theorem SetK.more {w0 w : World} {T : Nat → Nat} {sb vb mb : Nat} {V : Lv} {P : List Pn} {k k' : Nat} (h : SetK w0 T w sb vb mb V P k) (hk : k ≤ k') : SetK w0 T w sb vb mb V P k' :=
  ⟨h.set, h.old, h.good, h.num, h.len, Nat.le_trans h.cnt (Nat.mul_le_mul_right _ hk)⟩
theorem currentP {T : Nat → Nat} {w : World} {sb vb mb : Nat} {V : Lv} {P : List Pn} (h : PAt T w sb vb mb V P) : Calls Try.prog 7 #[.pointer (some ⟨sb, 0, none⟩)] w fun e w' => e = .returned (.pointer (some ⟨vb, 0, none⟩)) ∧ w' = w := by
  obtain ⟨pl, ps, hz, _⟩ := h.box
  have c0 := hz.2.1 0 _ rfl
  clear h hz
  go_enter Try.func7, Try.ntmps7
  go_wp2
  go_ret
  exact ⟨rfl, rfl⟩
/-- what one Apply of a script does to what is known: nothing is pinned -/
def StepIs (w0 : World) (sb mb : Nat) (k : Nat) (e : Ending) (w' : World) : Prop := (∃ v, e = .returned v) ∧ ∃ (T : Nat → Nat) (vb : Nat) (V : Lv), SetK w0 T w' sb vb mb V [] (k + 1)
theorem step_any {w0 w : World} {T : Nat → Nat} {sb vb mb : Nat} {V : Lv} {k : Nat} {q : Oq} {O : List Pc} {l : List Pi} {pts : List ByteArray} (h : SetK w0 T w sb vb mb V [] k) (hk : k < 300) (he : EdK w0 q O l pts) (hsm : O.length + l.length + pts.length ≤ 8192) :
    Calls Try.prog 9 #[.pointer (some ⟨sb, 0, none⟩), .agg #[.int .u64 q.x, .int .u64 q.y, .int .u64 q.z, svV q.o, svV q.i, svV q.p]] w fun e w' => StepIs w0 sb mb k e w' := by
  have hcnt := h.cnt
  have he2 := he.below h.old.below
  obtain ⟨kd, n, lv, fr, tx, x, y, z, ⟨oa, on, oc⟩, ⟨ia, inn, ic⟩, ⟨pa, pn, pc⟩, sec⟩ := q
  have h1 := he2.lo.2.1
  have h2 := he2.li.2.1
  have h3 := he2.lp.2.1
  change on = O.length at h1
  change inn = l.length at h2
  change pn = pts.length at h3
  subst h1 h2 h3
  simp only [svV]
  by_cases hpl : pts.length = V.length
  · have hpt : Isk kT T w (pa, V.length, pc) pts := by
      rw [← hpl]
      refine ⟨he2.lp.1, rfl, he2.lp.2.2.1, he2.lp.2.2.2.1, he2.lp.2.2.2.2, fun b off e => ?_⟩
      have hne : pts ≠ [] := by
        intro e0
        have := h.len
        rw [e0] at hpl
        simp at hpl
        omega
      obtain ⟨b', off', e', hr⟩ := he.lp.1 hne
      change pa = _ at e'
      change pa = _ at e
      rw [e] at e'
      cases e'
      exact ⟨h.old.zero b (.inl hr.1), Nat.lt_of_lt_of_le hr.1 h.old.below.size⟩
    have hsz : Sz V [] := ⟨h.num, by omega, fun p hp => (by cases hp), Nat.zero_le _⟩
    have := apply2_any x y z oa oc O ia ic pa pc l pts h.set hsz (fun b hb => h.old.zero b (.inr hb)) h.good.half h.len (by omega) he2.li he2.ok hpt he2.lo he2.on (by omega)
    rw [← hpl] at this
    refine this.mono fun e w' ha => ?_
    unfold A2Is at ha
    cases hed : edit2 V O l with
    | error er =>
      rw [hed] at ha
      obtain ⟨rfl, hb, _⟩ := ha
      exact ⟨⟨_, rfl⟩, T, vb, V, (h.below hb).more (Nat.le_succ _)⟩
    | ok V' =>
      rw [hed] at ha
      obtain ⟨nb, s, T', rfl, hP, _, hg, _⟩ := ha
      have E := edit2_facts hed h.good.half h.num he2.ok
      refine ⟨⟨_, rfl⟩, T', nb, V', hP, h.old.goes hg (by decide), E.good, E.num, by rw [E.len]; exact h.len, ?_⟩
      have := E.cnt
      omega
  · refine (apply_bad (.int .u64 x) (.int .u64 y) (.int .u64 z) (.slice oa O.length oc) (.slice ia l.length ic) pa pts.length pc h.set hpl (by omega)).mono ?_
    rintro e w' ⟨rfl, hb⟩
    exact ⟨⟨_, rfl⟩, T, vb, V, (h.below hb).more (Nat.le_succ _)⟩
end Vr
end Go.Proofs.Ytecgecolghgjoaa
