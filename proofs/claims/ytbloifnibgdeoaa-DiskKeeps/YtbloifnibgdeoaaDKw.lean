import Derived.Test.YtbloifnibgdeoaaDKs1
import Derived.Test.YtbloifnibgdeoaaRLtw
import Derived.Deep.RegionLaw
import Derived.Test.YtbloifnibgdeoaaDKno
import Derived.Deep.CutRange
import Derived.Deep.CutBlock
import Derived.Deep.DeepCutAuto
import Derived.BigQuiet
namespace Go.Proofs.Ytbloifnibgdeoaa
namespace Dsk
open Go.RowKit Go.Shelf Go.Maps Go.Sort Byt Laws
set_option linter.unusedVariables false
set_option maxRecDepth 100000
set_option linter.unusedSimpArgs false

theorem own_goes {T T' : Nat → Nat} {w w' : World} {base : Nat} {e : TypeId} {size : Nat} {v : Value} {n : Nat} {xs : List Value} (h : w.ownsRow base e size v n xs) (ht : ∀ g, v.ownBlock = some g → T g = 0) (g : Goes T T' w w') : w'.ownsRow base e size v n xs := by
  have hlt := h.lt
  refine ⟨h.1, ?_⟩
  rcases h.2 with h0 | ⟨b, cap, cur, rfl, h1, h2, h3⟩
  · exact .inl h0
  · exact .inr ⟨b, cap, cur, rfl, h1, ((g.block b (hlt b rfl).2 (ht b rfl)).1).trans h2, h3⟩
theorem StrAt.goes {T T' : Nat → Nat} {w w' : World} {a : Option Addr} {ss : List ByteArray} (h : StrAt w a ss) (ho : ∀ ad, a = some ad → T ad.block = 0) (g : Goes T T' w w') : StrAt w' a ss := fun j s hj => by
  obtain ⟨b, off, e, hc⟩ := h j s hj
  refine ⟨b, off, e, ?_⟩
  have hlt := World.block_lt_of_cell? w _ hc
  have hb := (g.block b hlt (ho _ e)).1
  unfold World.cell? at hc ⊢
  rw [hb]; exact hc
theorem Pd.fresh {T : Nat → Nat} {w : World} {d mb : Nat} {fb : Nat → Nat} {m : Dm} (h : Pd T w d mb fb m) {b : Nat} (hb : w.heap.size ≤ b) : T b = 0 := by
  obtain ⟨cv, D, h⟩ := h
  exact h.fresh b hb
theorem Pd.below {T : Nat → Nat} {w w' : World} {d mb : Nat} {fb : Nat → Nat} {m : Dm} (h : Pd T w d mb fb m) (hb : Below w.heap.size w w') : Pd T w' d mb fb m := by
  obtain ⟨cv, D, h⟩ := h
  exact ⟨cv, D, Pdi.below h hb⟩
theorem Pd.sures {T : Nat → Nat} {w : World} {d mb : Nat} {fb : Nat → Nat} {m : Dm} (h : Pd T w d mb fb m) (j : Nat) (f : Fl) (hf : m.fl[j]? = some f) : f.sure ≤ f.data.length := by
  obtain ⟨cv, D, h⟩ := h
  obtain ⟨a, c, hfa⟩ := h.file j f hf
  exact hfa.sure
theorem Goes.old {T T' : Nat → Nat} {w W W' : World} (h : Below w.heap.size w W) (ht : ∀ b, b < w.heap.size → T b = 0) (g : Goes T T' W W') : Below w.heap.size w W' ∧ ∀ b, b < w.heap.size → T' b = 0 :=
  ⟨⟨g.os.trans h.os, g.tape.trans h.tape, g.output.trans h.output, Nat.le_trans h.size g.size, fun b hb => ((g.block b (Nat.lt_of_lt_of_le hb h.size) (ht b hb)).1).trans (h.block b hb)⟩, fun b hb => (g.block b (Nat.lt_of_lt_of_le hb h.size) (ht b hb)).2⟩
/-- What is held, as it lies. -/
structure Hl (w : World) (T : Nat → Nat) (W : World) (sv : Value) (L : List He) : Prop where
  row : W.ownsRow w.heap.size 59 2 sv L.length (heRow L)
  ts : ∀ g, sv.ownBlock = some g → T g = 0
  hb : ∀ e ∈ L, IsB W e.a e.data ∧ (e.a = none → e.c = 0) ∧ (∀ ad, e.a = some ad → T ad.block = 0 ∧ ad.block < W.heap.size)
theorem Hl.goes {w W W' : World} {T T' : Nat → Nat} {sv : Value} {L : List He} (h : Hl w T W sv L) (g : Goes T T' W W') : Hl w T' W' sv L :=
  ⟨own_goes h.row h.ts g, fun b hb => (g.block b (h.row.lt b hb).2 (h.ts b hb)).2, fun e he => by
    obtain ⟨h1, h2, h3⟩ := h.hb e he
    exact ⟨isB_goes h1 (fun ad e => (h3 ad e).1) g, h2, fun ad e => ⟨(g.block _ (h3 ad e).2 (h3 ad e).1).2, Nat.lt_of_lt_of_le (h3 ad e).2 g.size⟩⟩⟩
/-- The loop's state, behind i calls of a script. -/
structure K3 (w : World) (T : Nat → Nat) (W : World) (d mb : Nat) (fb : Nat → Nat) (m : Dm) (sv : Value) (L : List He) (da : Option Addr) (dn : List ByteArray) (i tot : Nat) : Prop where
  pd : Pd T W d mb fb m
  hist : Hist m
  low : ∀ b, b < w.heap.size → T b = 0
  go : Below w.heap.size w W
  szs : m.ch.length ≤ i ∧ m.now.length ≤ i ∧ m.used ≤ tot
  hl : Hl w T W sv L
  hd : ∀ e ∈ L, Hd m (e.name, e.data)
  ll : L.length ≤ i
  str : StrAt W da dn
  td : ∀ ad, da = some ad → T ad.block = 0 ∧ ad.block < W.heap.size
  dirs : dn = (m.bk 0).map fun p => ba p.1
theorem K3.disk {w W W' : World} {T T' : Nat → Nat} {d mb : Nat} {fb fb' : Nat → Nat} {m m' : Dm} {sv : Value} {L : List He} {da : Option Addr} {dn : List ByteArray} {i tot tot' : Nat} (h : K3 w T W d mb fb m sv L da dn i tot) (hp : Pd T' W' d mb fb' m') (g : Goes T T' W W') (hn : Nxt m m') (hs : m'.now.length ≤ m.now.length + 1 ∧ m'.used ≤ tot') :
    K3 w T' W' d mb fb' m' (.slice none 0 0) [] da dn (i + 1) tot' ∧ Hl w T' W' sv L := by
  obtain ⟨o1, o2⟩ := Goes.old h.go h.low g
  refine ⟨⟨hp, hn.hist, o2, o1, ⟨by have := hn.len; have := h.szs; omega, by have := h.szs; omega, hs.2⟩, ⟨World.ownsRow_nil _ _ _ _, (by intro g hg; cases hg), by simp⟩, by simp, by simp, h.str.goes (fun ad e => (h.td ad e).1) g, fun ad e => ⟨(g.block _ (h.td ad e).2 (h.td ad e).1).2, Nat.lt_of_lt_of_le (h.td ad e).2 g.size⟩, ?_⟩, h.hl.goes g⟩
  rw [hn.bk 0 (Nat.zero_le _)]
  exact h.dirs
/-- What is held is put beside it again. -/
theorem K3.with {w W : World} {T : Nat → Nat} {d mb : Nat} {fb : Nat → Nat} {m : Dm} {sv sv' : Value} {L L' : List He} {da : Option Addr} {dn : List ByteArray} {i tot : Nat} (h : K3 w T W d mb fb m sv L da dn i tot) (hl : Hl w T W sv' L') (hd : ∀ e ∈ L', Hd m (e.name, e.data)) (hi : L'.length ≤ i) : K3 w T W d mb fb m sv' L' da dn i tot :=
  { h with hl := hl, hd := hd, ll := hi }
theorem K3.below {w W W' : World} {T : Nat → Nat} {d mb : Nat} {fb : Nat → Nat} {m : Dm} {sv : Value} {L : List He} {da : Option Addr} {dn : List ByteArray} {i tot : Nat} (h : K3 w T W d mb fb m sv L da dn i tot) (hb : Below W.heap.size W W') : K3 w T W' d mb fb m sv L da dn i tot := by
  have g : Goes T T W W' := Goes.below hb
  obtain ⟨o1, o2⟩ := Goes.old h.go h.low g
  exact { h with pd := h.pd.below hb, go := o1, hl := h.hl.goes g, str := h.str.goes (fun ad e => (h.td ad e).1) g, td := fun ad e => ⟨(h.td ad e).1, Nat.lt_of_lt_of_le (h.td ad e).2 g.size⟩ }
/-- What gone leaves lies in new memory. -/
theorem Hl.gone {w W W' : World} {T : Nat → Nat} {sv : Value} {L : List He} {a' : Option Addr} {c' : Nat} {s : ByteArray} (h : Hl w T W sv L) (hw : w.heap.size ≤ W.heap.size) (hf : ∀ b, W.heap.size ≤ b → T b = 0) (hb : Below W.heap.size W W') (hr : W'.ownsRow W.heap.size 59 2 (.slice a' (heGone L s).length c') (heGone L s).length (heRow (heGone L s))) : Hl w T W' (.slice a' (heGone L s).length c') (heGone L s) := by
  have h' := h.goes (Goes.below (T := T) hb)
  refine ⟨⟨hr.1, ?_⟩, fun g hg => hf g (hr.lt g hg).1, fun e he => h'.hb e (List.mem_filter.1 he).1⟩
  rcases hr.2 with h0 | ⟨g, cap, cur, h1, h2, h3⟩
  · exact .inl h0
  · exact .inr ⟨g, cap, cur, h1, by omega, h3⟩
theorem mem_heGone {L : List He} {s : ByteArray} {e : He} (h : e ∈ heGone L s) : e ∈ L ∧ ky e.name ≠ ky s := by
  have := List.mem_filter.1 h
  exact ⟨this.1, ky_ne (by simpa using this.2)⟩
theorem heGone_le (L : List He) (s : ByteArray) : (heGone L s).length ≤ L.length := List.length_filter_le _ _
end Dsk
end Go.Proofs.Ytbloifnibgdeoaa
namespace Go.Proofs.Ytbloifnibgdeoaa
namespace Dsk
open Go.RowKit Go.Shelf Go.Maps Go.Sort Byt Laws
set_option linter.unusedVariables false
set_option maxRecDepth 100000

/-- How much a call adds. -/
def Add (m m' : Dm) (n : Nat) : Prop := m'.now.length ≤ m.now.length + 1 ∧ m'.used ≤ m.used + n
theorem Add.same {m m' : Dm} (h1 : m'.now = m.now) (h2 : ∀ i, lenOf m'.fl i = lenOf m.fl i) : Add m m' 0 := by
  refine ⟨by rw [h1]; omega, ?_⟩
  show usedOf m'.fl m'.now ≤ _
  rw [h1, usedOf_same h2]; exact Nat.le_refl _
theorem Add.create {m : Dm} (h : Hist m) (s : ByteArray) : Add m (m.create s).2 0 := by
  unfold Dm.create
  split
  · exact Add.same rfl (fun _ => rfl)
  · split
    · exact Add.same rfl (fun _ => rfl)
    · rename_i hl
      split
      · exact Add.same rfl (fun _ => rfl)
      · split
        · exact Add.same rfl (fun _ => rfl)
        · have hn : look m.now (ky s) = none := by
            cases e : look m.now (ky s) with
            | none => rfl
            | some i => exact absurd (by rw [e]; rfl) hl
          refine ⟨?_, ?_⟩
          · show (ins m.now (ky s) m.fl.length).length ≤ _
            rw [len_ins hn]; omega
          · show usedOf (m.fl ++ [(⟨[], 0⟩ : Fl)]) (ins m.now (ky s) m.fl.length) ≤ usedOf m.fl m.now + 0
            rw [usedOf_ins hn, usedOf_more _ h.now.2]
            have : lenOf (m.fl ++ [(⟨[], 0⟩ : Fl)]) m.fl.length = 0 := by simp [lenOf]
            omega
theorem Add.reach (m : Dm) (ok : Bool) (k : Key) : Add m (m.reach ok k).2 0 := by
  obtain ⟨h1, h2, _, _⟩ := reach_same m ok k
  exact Add.same h1 (fun _ => by rw [h2])
theorem Add.delete (m : Dm) (s : ByteArray) : Add m (m.delete s).2 0 := by
  unfold Dm.delete
  split
  · obtain ⟨h1, h2, _, _⟩ := reach_same m (okN s) (ky s)
    refine ⟨?_, ?_⟩
    · show (del m.now (ky s)).length ≤ _
      have := len_del m.now (ky s); omega
    · show usedOf (m.reach _ _).2.fl (del m.now (ky s)) ≤ usedOf m.fl m.now + 0
      rw [h2]
      exact used_filter_le _ _ _
  · exact Add.reach _ _ _
theorem Add.rename {m : Dm} (h : Hist m) (s t : ByteArray) : Add m (m.rename s t).2 0 := by
  unfold Dm.rename
  split
  · rename_i hc
    split
    · rename_i i hi
      obtain ⟨h1, h2, _, _⟩ := reach_same m (okN s && okN t) (ky s)
      refine ⟨?_, ?_⟩
      · show (ins (del m.now (ky s)) (ky t) i).length ≤ _
        have := len_ren (k' := ky t) h.rises hi; omega
      · show usedOf (m.reach _ _).2.fl (ins (del m.now (ky s)) (ky t) i) ≤ usedOf m.fl m.now + 0
        rw [h2]
        have := usedOf_ren (fl := m.fl) h.rises hi (ky_ne hc.2)
        omega
    · exact Add.reach _ _ _
  · exact Add.reach _ _ _
theorem Add.sync (m : Dm) (s : ByteArray) : Add m (m.sync s).2 0 := by
  unfold Dm.sync
  split
  · obtain ⟨h1, h2, _, _⟩ := reach_same m (okN s) (ky s)
    split
    · unfold Dm.sure
      split
      · rename_i f hf
        refine Add.same h1 (fun j => ?_)
        show lenOf ((m.reach _ _).2.fl.set _ _) j = _
        rename_i i _ _
        by_cases e : j = i
        · subst e
          rw [lenOf_set_same _ (List.getElem?_eq_some_iff.1 hf).1]
          rw [h2] at hf
          exact (lenOf_some hf).symm
        · rw [lenOf_set_other _ e, h2]
      · exact Add.reach _ _ _
    · exact Add.reach _ _ _
  · exact Add.reach _ _ _
theorem Add.syncDir (m : Dm) : Add m m.syncDir.2 0 := by
  unfold Dm.syncDir
  split
  · exact Add.same rfl (fun _ => rfl)
  · split
    · exact Add.same rfl (fun _ => rfl)
    · exact Add.same rfl (fun _ => rfl)
theorem used_lay {m : Dm} (h : Hist m) (i : Nat) (l : List Nat) : usedOf (m.lay i l).fl m.now ≤ usedOf m.fl m.now + l.length := by
  unfold Dm.lay
  simp only
  cases hf : m.fl[i]? with
  | none =>
    have e : (m.fl.modify i fun f => { f with data := f.data ++ l }) = m.fl := by
      refine List.ext_getElem? fun j => ?_
      rw [List.getElem?_modify]
      by_cases e : i = j
      · subst e; rw [hf]; rfl
      · simp [e]
    rw [e]; omega
  | some f =>
    have e : (m.fl.modify i fun f => { f with data := f.data ++ l }) = m.fl.set i { f with data := f.data ++ l } := by
      refine List.ext_getElem? fun j => ?_
      rw [List.getElem?_modify]
      by_cases e : i = j
      · subst e
        rw [hf, List.getElem?_set_self (List.getElem?_eq_some_iff.1 hf).1]
        simp
      · rw [List.getElem?_set_ne e]; simp [e]
    rw [e]
    by_cases hi : i ∈ m.now.map (·.2)
    · have := usedOf_set (fl := m.fl) { f with data := f.data ++ l } hf h.now.1 hi
      simp at this
      omega
    · rw [usedOf_set_no _ hi]; omega
theorem Add.lay {m m' : Dm} (h : Hist m) {i : Nat} {l : List Nat} {n : Nat} (h1 : m'.now = m.now) (h2 : m'.fl = (m.lay i l).fl) (hl : l.length ≤ n) : Add m m' n := by
  refine ⟨by rw [h1]; omega, ?_⟩
  show usedOf m'.fl m'.now ≤ _
  rw [h1, h2]
  have := used_lay h i l
  show _ ≤ usedOf m.fl m.now + n
  omega
theorem Add.mono {m m' : Dm} {n n' : Nat} (h : Add m m' n) (hn : n ≤ n') : Add m m' n' := ⟨h.1, Nat.le_trans h.2 (by omega)⟩
theorem Add.append {m : Dm} (h : Hist m) (s : ByteArray) (l : List Nat) : Add m (m.append s l).2 l.length := by
  unfold Dm.append
  split
  · simp only
    split
    · split
      · unfold Dm.layPart
        split
        · exact Add.lay h rfl rfl (by rw [List.length_take]; omega)
        · exact (Add.same rfl (fun _ => rfl)).mono (Nat.zero_le _)
      · exact (Add.same rfl (fun _ => rfl)).mono (Nat.zero_le _)
    · exact (Add.same rfl (fun _ => rfl)).mono (Nat.zero_le _)
  · split
    · exact (Add.same rfl (fun _ => rfl)).mono (Nat.zero_le _)
    · split
      · exact (Add.same rfl (fun _ => rfl)).mono (Nat.zero_le _)
      · split
        · exact Add.lay h rfl rfl (by rw [List.length_take]; omega)
        · exact Add.lay h rfl rfl (Nat.le_refl _)
theorem Hist.syncDir_no {m : Dm} (h : Hist m) (hr : m.syncDir.1 ≠ 0) : Nxt m m.syncDir.2 := by
  unfold Dm.syncDir at hr ⊢
  split
  · exact h.same (m' := (m.enter true).2) rfl rfl rfl
  · rename_i h1
    rw [if_neg h1] at hr
    split
    · exact h.same (m' := ((m.enter true).2.spend 1).2) rfl rfl rfl
    · rename_i h2
      rw [if_neg h2] at hr
      exact absurd rfl hr
theorem syncDir_ok {m : Dm} (hr : m.syncDir.1 = 0) : m.syncDir.2.ch = [] := by
  unfold Dm.syncDir at hr ⊢
  split
  · rename_i h1
    rw [if_pos h1] at hr
    exact absurd hr h1
  · rename_i h1
    rw [if_neg h1] at hr
    split
    · rename_i h2
      rw [if_pos h2] at hr
      simp at hr
    · rfl
theorem K3.synced {w W W' W2 : World} {T T' : Nat → Nat} {d mb : Nat} {fb fb' : Nat → Nat} {m m' : Dm} {sv : Value} {L : List He} {da da' : Option Addr} {dn : List ByteArray} {i tot tot' B n' dc' : Nat} (h : K3 w T W d mb fb m sv L da dn i tot) (hp : Pd T' W' d mb fb' m') (g : Goes T T' W W') (hh : Hist m') (hc : m'.ch = []) (hs : m'.now.length ≤ m.now.length + 1 ∧ m'.used ≤ tot') (hd : ∀ e ∈ L, Hd m' (e.name, e.data)) (hb : Below W'.heap.size W' W2)
    (hr : W2.ownsRow B 9 1 (.slice da' n' dc') n' ((m'.files.map (·.name)).map Value.string)) (hB : W'.heap.size ≤ B) : K3 w T' W2 d mb fb' m' sv L da' (m'.files.map (·.name)) (i + 1) tot' := by
  obtain ⟨o1, o2⟩ := Goes.old h.go h.low g
  have g2 : Goes T' T' W' W2 := Goes.below hb
  obtain ⟨o3, o4⟩ := Goes.old o1 o2 g2
  refine ⟨hp.below hb, hh, o4, o3, ⟨by rw [hc]; simp, by have := h.szs; omega, hs.2⟩, (h.hl.goes g).goes g2, hd, by have := h.ll; omega, (StrAt.of hr).1, fun ad e => ?_, ?_⟩
  · subst e
    have := hr.lt ad.block rfl
    exact ⟨hp.fresh (by omega), this.2⟩
  · rw [files_names, bk_all (by rw [hc]; simp)]
/-- One thing more is held. -/
theorem K3.put {w W W8 : World} {T : Nat → Nat} {d mb : Nat} {fb : Nat → Nat} {m : Dm} {sv0 sv : Value} {L0 L R : List He} {da : Option Addr} {dn : List ByteArray} {i tot B g c8 c6 : Nat} {a6 : Option Addr} {nm : ByteArray} {data : List Nat} (h : K3 w T W d mb fb m sv0 L0 da dn i tot) (hl : Hl w T W sv L) (hb : Below W.heap.size W W8)
    (hr : W8.ownsRow B 59 2 (.slice (some ⟨g, 0, none⟩) (R.length + 1) c8) (R.length + 1) (heRow R ++ [.string nm, .slice a6 data.length c6])) (hB : W.heap.size ≤ B) (hR : ∀ e ∈ R, e ∈ L) (hd : ∀ e ∈ R, Hd m (e.name, e.data)) (hnew : IsB W a6 data ∧ (a6 = none → c6 = 0) ∧ ∀ ad, a6 = some ad → T ad.block = 0 ∧ ad.block < W.heap.size) (hdn : Hd m (nm, data)) (hi : R.length + 1 ≤ i) :
    K3 w T W8 d mb fb m (.slice (some ⟨g, 0, none⟩) (R.length + 1) c8) (R ++ [⟨nm, data, a6, c6⟩]) da dn i tot := by
  have g8 : Goes T T W W8 := Goes.below hb
  have hl8 := hl.goes g8
  have hlen : (R ++ [(⟨nm, data, a6, c6⟩ : He)]).length = R.length + 1 := by simp
  refine (h.below hb).with ⟨?_, fun x hx => ?_, fun e he => ?_⟩ (fun e he => ?_) (by rw [hlen]; exact hi)
  · rw [hlen, heRow_append]
    have hw := h.go.size
    refine ⟨hr.1, ?_⟩
    rcases hr.2 with h0 | ⟨b, cap, cur, e1, h1, h2⟩
    · exact .inl h0
    · exact .inr ⟨b, cap, cur, e1, by omega, h2⟩
  · have := (hr.lt x hx).1
    exact h.pd.fresh (by omega)
  · rcases List.mem_append.1 he with he | he
    · exact hl8.hb e (hR e he)
    · have e2 : e = ⟨nm, data, a6, c6⟩ := by simpa using he
      subst e2
      exact ⟨isB_goes hnew.1 (fun ad e => (hnew.2.2 ad e).1) g8, hnew.2.1, fun ad e => ⟨(hnew.2.2 ad e).1, Nat.lt_of_lt_of_le (hnew.2.2 ad e).2 hb.size⟩⟩
  · rcases List.mem_append.1 he with he | he
    · exact hd e he
    · have e2 : e = ⟨nm, data, a6, c6⟩ := by simpa using he
      subst e2
      exact hdn
/-- A call's copy that the law makes of a script's call, as it lies. -/
structure Ob (T : Nat → Nat) (W : World) (ob : Nat) (o : OpD) : Prop where
  lt : ob < W.heap.size
  tag : T ob = 0
  at_ : ∀ t, t < 8 → W.cell? ⟨ob, t, none⟩ = o.cells[t]?
theorem Ob.goes {T T' : Nat → Nat} {W W' : World} {ob : Nat} {o : OpD} (h : Ob T W ob o) (g : Goes T T' W W') : Ob T' W' ob o := by
  obtain ⟨h1, h2⟩ := g.block ob h.lt h.tag
  refine ⟨Nat.lt_of_lt_of_le h.lt g.size, h2, fun t ht => ?_⟩
  rw [← h.at_ t ht]
  unfold World.cell?
  rw [h1]
end Dsk
end Go.Proofs.Ytbloifnibgdeoaa
namespace Go.Proofs.Ytbloifnibgdeoaa
namespace Dsk
open Go.RowKit Go.Shelf Go.Maps Go.Sort Byt Laws
set_option linter.unusedVariables false
set_option maxRecDepth 100000
set_option linter.unusedSimpArgs false

/-- Ints in new memory: a copy of a list. -/
structure NInts (base : Nat) (w : World) (a : Option Addr) (c : Nat) (ks : List Int) : Prop where
  ints : IntsAt w a ks
  base : ∀ ad, a = some ad → base ≤ ad.block
  le : ks.length ≤ c
  max : c ≤ 9223372036854775807
theorem NInts.of {e : TypeId} {base n : Nat} {w : World} {v : Value} {ks : List Int} (h : w.ownsRow base e 1 v n (ks.map fun x => Value.int .i64 x)) : ∃ a c, v = .slice a ks.length c ∧ NInts base w a c ks := by
  have hl := h.1
  rw [List.length_map, Nat.mul_one] at hl
  subst hl
  rcases h.2 with ⟨rfl, h0⟩ | ⟨g, cap, cur, rfl, hb, hg, h1, h2, h3, h4⟩
  · refine ⟨none, 0, by rw [h0], ⟨fun j x hx => ?_, fun ad e => (by cases e), by omega, by omega⟩⟩
    have := (List.getElem?_eq_some_iff.1 hx).1
    omega
  · refine ⟨some ⟨g, 0, none⟩, cap, rfl, ⟨fun j x hx => ⟨g, 0, rfl, ?_⟩, fun ad e => (by cases e; exact hb), h1, by unfold maxLen at h2; omega⟩⟩
    have hlt := (List.getElem?_eq_some_iff.1 hx).1
    have hcj : (cur.toList)[j]? = some (Value.int .i64 x) := by
      have z : (ks.map fun x => Value.int .i64 x)[j]? = some (Value.int .i64 x) := by rw [List.getElem?_map, hx]; rfl
      rw [← h4, List.getElem?_take, if_pos (by omega)] at z
      exact z
    rw [Nat.zero_add]
    unfold World.cell?
    simp [hg]
    rw [Array.getElem?_toList] at hcj
    exact hcj
theorem ints_news {w : World} {ad : Addr} {ks : List Int} (h : IntsAt w (some ad) ks) : ∀ j u, (ks.map fun x => Value.int .i64 x)[j]? = some u → w.cell? (ad.add j) = some u := fun j u hj => by
  rw [List.getElem?_map] at hj
  cases hx : ks[j]? with
  | none => rw [hx] at hj; cases hj
  | some x =>
    rw [hx] at hj
    cases hj
    obtain ⟨b, off, e, hc⟩ := h j x hx
    cases e
    rw [add_plain2]
    exact hc

theorem wp_cloneI {P : Program} (w : World) {o : Oper} {a : Act} {K : Act → World → Prop} {Q : Exit → Act → World → Prop} (s x : Operand) (t : TypeId)
    (ho : o.op = .call { callee := .builtin .append, args := #[s, x], argTypes := #[t, t] })
    (e : TypeId) (i : TypeInfo) (ht : P.underlying t = some (.slice e)) (hi : P.info? e = some i) (hz : i.zero = some (.int .i64 0)) (hsize : i.size = 1) (hby : i.bytes = 8)
    (hs : a.eval s = .slice none 0 0) (ao : Option Addr) (m c : Nat) (r : List Int) (hx : a.eval x = .slice ao m c) (hm : m = r.length) (hn : ao = none → c = 0) (hr : IntsAt w ao r) (h47 : m ≤ 1000000)
    (h : ∀ a' c' w', NInts w.heap.size w' a' c' r → Below w.heap.size w w' → K (a.put o.dst (.slice a' r.length c')) w') :
    Oper.wp P o a w K Q := by
  subst hm
  cases ao with
  | none =>
    have hr0 : r = [] := by
      cases r with
      | nil => rfl
      | cons y ys =>
        obtain ⟨b, off, e, _⟩ := hr 0 y rfl
        cases e
    subst hr0
    obtain rfl := hn rfl
    have hrun := run_append_owned_none (P := P) (w := w) w.heap.size t o.type e i 1 ht hi (.slice none 0 0) 0 [] (World.ownsRow_nil _ _ _ _)
    have hx' : a.eval x = .slice none 0 0 := hx
    unfold Oper.wp execOp
    simp only [ho, resolve, invoke, builtin, Sem.run_bind, Sem.run_pure, Result.andThen_ok, List.map_toArray, List.map_cons, List.map_nil, hs, hx', hrun]
    exact h none 0 w ⟨hr, fun ad e => (by cases e), Nat.le_refl _, by omega⟩ (Below.refl _ _)
  | some ad =>
    obtain ⟨v', w', hrun, h2, h3, h4, h5⟩ := run_append_own_at (P := P) w w.heap.size t o.type e i (.int .i64 0) 1 8 ht hi hz hsize hby rfl (by omega) (.slice none 0 0) 0 [] (World.ownsRow_nil _ _ _ _) ad r.length c (r.map fun x => Value.int .i64 x) (by rw [List.length_map]; omega) (ints_news hr) (by intro u hu; obtain ⟨x, _, rfl⟩ := List.mem_map.1 hu; rfl) (by unfold maxLen; omega) (by omega) (Nat.le_refl _)
    rw [List.nil_append, Nat.zero_add] at h2
    obtain ⟨a', c', rfl, hnew⟩ := NInts.of h2
    unfold Oper.wp execOp
    simp only [ho, resolve, invoke, builtin, Sem.run_bind, Sem.run_pure, Result.andThen_ok, List.map_toArray, List.map_cons, List.map_nil, hs, hx, hrun]
    exact h a' c' w' hnew (below_of (Below.refl _ _) h3 (Nat.le_refl _) (fun j hj => by cases hj))
/-- append([]int(nil), x...). -/
theorem wpList_cloneI {P : Program} (w : World) {ops : Array Oper} {rest : List Oper} {o : Oper} {a : Act} {Q : Exit → Act → World → Prop} (hgd : o.guard = none) (s x : Operand) (t : TypeId)
    (ho : o.op = .call { callee := .builtin .append, args := #[s, x], argTypes := #[t, t] })
    (e : TypeId) (i : TypeInfo) (ht : P.underlying t = some (.slice e)) (hi : P.info? e = some i) (hz : i.zero = some (.int .i64 0)) (hsize : i.size = 1) (hby : i.bytes = 8)
    (hs : a.eval s = .slice none 0 0) (ao : Option Addr) (m c : Nat) (r : List Int) (hx : a.eval x = .slice ao m c) (hm : m = r.length) (hn : ao = none → c = 0) (hr : IntsAt w ao r) (h47 : m ≤ 1000000)
    (h : ∀ a' c' w', NInts w.heap.size w' a' c' r → Below w.heap.size w w' → wpList P ops Q rest (a.put o.dst (.slice a' r.length c')) w') : wpList P ops Q (o :: rest) a w :=
  wpList_plain hgd fun _ hK => wp_cloneI w s x t ho e i ht hi hz hsize hby hs ao m c r hx hm hn hr h47 fun a' c' w' h1 h2 => hK _ _ (h a' c' w' h1 h2)
theorem infoJ : (Try.prog.info? 3).map (fun i => (i.zero, i.size, i.bytes)) = some (some (.int .i64 0), 1, 8) := by kernel_rfl
theorem FilesAt.goes {T T' : Nat → Nat} {base : Nat} {w w' : World} {v : Value} {fs : List Fi} {ds : List (Option Addr × Nat)} (h : FilesAt base w v fs ds) (ht : ∀ b, base ≤ b → T b = 0) (g : Goes T T' w w') : FilesAt base w' v fs ds :=
  ⟨h.len, own_goes h.row (fun b hb => ht b (h.row.lt b hb).1) g, fun i f x hf hx => ⟨⟨own_goes (h.data i f x hf hx).1.row (fun b hb => ht b ((h.data i f x hf hx).1.row.lt b hb).1) g, (h.data i f x hf hx).1.byte⟩, (h.data i f x hf hx).2⟩⟩
theorem files_big {T : Nat → Nat} {w : World} {d mb : Nat} {fb : Nat → Nat} {m : Dm} (h : Pd T w d mb fb m) : ∀ f ∈ m.files, f.data.length ≤ 2147483648 := by
  obtain ⟨cv, D, h⟩ := h
  intro f hf
  obtain ⟨p, hp, rfl⟩ := List.mem_map.1 hf
  obtain ⟨g, hg⟩ : ∃ g, m.fl[p.2]? = some g := ⟨_, List.getElem?_eq_getElem (h.ids p hp)⟩
  obtain ⟨a, c, hfi⟩ := h.file p.2 g hg
  show (dataOf m.fl p.2).length ≤ _
  simp only [dataOf, hg, Option.map_some, Option.getD_some]
  exact hfi.big
theorem files_sure {m : Dm} (hs : ∀ p ∈ m.now, ∃ f, m.fl[p.2]? = some f ∧ f.sure = f.data.length) : ∀ f ∈ m.files, f.sure = f.data.length := by
  intro f hf
  obtain ⟨p, hp, rfl⟩ := List.mem_map.1 hf
  obtain ⟨g, hg, he⟩ := hs p hp
  show sureOf m.fl p.2 = (dataOf m.fl p.2).length
  simp only [dataOf, sureOf, hg, Option.map_some, Option.getD_some]
  exact he
/-- What stands behind a fall: what Image told, all sure; nothing to take back; the disk is up. -/
structure Fn (m9 : Dm) (fs : List Fi) : Prop where
  files : m9.files = fs
  sure : ∀ f ∈ fs, f.sure = f.data.length
  image : m9.image 0 [] = fs
  down : m9.down = false
  now : m9.now.length = fs.length
  ch : m9.ch = []
theorem fn_fall {m : Dm} (hh : Hist m) (hs : ∀ (j : Nat) (f : Fl), m.fl[j]? = some f → f.sure ≤ f.data.length) (dir : Int) (ks : List Int) : Fn (m.fall dir ks) (m.image dir ks) := by
  obtain ⟨h1, h2⟩ := fall_files hh hs dir ks
  refine ⟨h1, ?_, ?_, rfl, ?_, rfl⟩
  · rw [← h1]; exact files_sure h2
  · rw [image_sure rfl h2, h1]
  · rw [← h1]; show _ = (List.map _ _).length; rw [List.length_map]
set_option maxHeartbeats 1000000 in
theorem prefix_drew (a b : Option Addr) (ca cb n m : Nat) (l r : List Nat) (w : World) (ha : IsB w a l) (hb : IsB w b r) (na : a = none → ca = 0) (nb : b = none → cb = 0) (hn : n = l.length) (hm : m = r.length) (hmc : m ≤ cb) (hcb : cb ≤ 9223372036854775807) (hp : l <+: r) :
    Calls Try.prog 36 #[.slice a n ca, .slice b m cb] w fun e w' => e = .returned (.bool true) ∧ w' = w.drew := by
  have hle : n ≤ m := by rw [hn, hm]; exact hp.length_le
  have hle' : (n : Int) ≤ (m : Int) := by omega
  have ht : r.take n = l := by rw [hn]; exact (List.prefix_iff_eq_take.1 hp).symm
  have h1 := fun w' (h : IsB w' a l) => conv_any w' a ca n l h hn na
  have h2 := fun w' (h : IsB w' b l) => conv_any w' b cb n l h hn nb
  have h1' := h1 w.drew ha
  have h2' := h2 w.drew (by rw [← ht]; exact hb.take _)
  have hnc : n ≤ cb := by omega
  have hd : decide ((n : Int) ≤ (m : Int)) = true := by simpa using hle'
  clear ha hb na nb hn hm h1 h2 hp ht
  generalize ofB l = s at *
  go_enter Try.func36, Try.ntmps36
  go_wp2
  go_region
  go_wp2
  go_ret
  exact ⟨rfl, rfl⟩
theorem no_ints (w : World) : IntsAt w none [] := fun j x hx => by simp at hx
end Dsk
end Go.Proofs.Ytbloifnibgdeoaa
namespace Go.Proofs.Ytbloifnibgdeoaa
namespace Dsk
open Go.RowKit Go.Shelf Go.Maps Go.Sort Byt Laws
set_option linter.unusedVariables false
set_option maxRecDepth 100000
set_option linter.unusedSimpArgs false
attribute [local go_sem ↓] Go.wp_at_zero Go.wp_at_succ

theorem HIDK {p : Prop} (h : p) : Hid p := h
theorem sumO_le (os : List OpD) (k : Nat) : sumO (os.take k) ≤ sumO os := by
  have h : sumO os = sumO (os.take k) + sumO (os.drop k) := by
    unfold sumO
    rw [← List.sum_append, ← List.map_append, List.take_append_drop]
  omega
theorem OpsAt.below {w w' : World} {a : Option Addr} {os : List OpD} (h : OpsAt w a os) (hb : Below w.heap.size w w') : OpsAt w' a os :=
  ⟨fun k o ho => by
    obtain ⟨b, off, e, hlt, hc⟩ := h.at_ k o ho
    exact ⟨b, off, e, Nat.lt_of_lt_of_le hlt hb.size, fun t ht => (hb.cell (p := ⟨b, off + k * 8 + t, none⟩) hlt).trans (hc t ht)⟩, fun o ho => by
    have z := h.ok o ho
    exact { z with isB := isB_goes (T := fun _ => 0) z.isB (fun _ _ => rfl) (Goes.below hb), ints := z.ints.below hb }⟩
set_option maxHeartbeats 4000000 in
theorem keeps_any (w : World) (a : Option Addr) (n c : Nat) (os : List OpD) (dir : Int) (ka : Option Addr) (kn kc : Nat) (ks : List Int) (ho : OpsAt w a os) (hn : n = os.length) (hc : n ≤ c) (hc2 : c ≤ 9223372036854775807) (hk : IntsAt w ka ks) (hka : ka = none → kc = 0) (hkn : kn = ks.length) (hkc : kn ≤ kc) (hkc2 : kc ≤ 9223372036854775807) (hkw : ∀ x ∈ ks, x ≤ 9223372036854775807) :
    Calls Try.prog 7 #[.slice a n c, .int .i64 dir, .slice ka kn kc] w fun e w' => e = .returned (.bool true) ∧ Below w.heap.size w w' := by
  have HO : Hid (OpsAt w a os ∧ True ∧ n = os.length) := ⟨ho, trivial, hn⟩
  have HK : Hid (IntsAt w ka ks ∧ kn = ks.length ∧ (∀ x ∈ ks, x ≤ 9223372036854775807) ∧ (ka = none → kc = 0)) := ⟨hk, hkn, hkw, hka⟩
  clear ho hn hk hkn hkw hka
  have okN0 : okNew ((0 : Nat) : Int) [] = true := by kernel_rfl
  have HNW : Hid (okNew ((0 : Nat) : Int) [] = true) := okN0
  clear okN0
  go_enter Try.func7, Try.ntmps7
  go_wp2_with fail
  refine (known_any w).mono ?_
  rintro e w1 ⟨rfl, hb1⟩
  have HB1 : Hid (Below w.heap.size w w1) := hb1
  clear hb1
  go_wp2_with fail
  refine (small_ops a n c os w1 (HO.out.1.below HB1.out) HO.out.2.2 hc hc2).mono ?_
  rintro e w2 ⟨⟨b, rfl, hb⟩, q, rfl⟩
  have HS : Hid (b = true → sumO os ≤ 1048576 ∧ os.length ≤ 400) := hb
  clear hb
  have HB2 : Hid (Below w.heap.size w (w1.drewN q)) := below_drewN HB1.out q
  clear HB1
  generalize w1.drewN q = w2 at *
  cases b with
  | false =>
    go_wp2
    go_ret
    exact ⟨rfl, HB2.out⟩
  | true =>
    by_cases h1 : (120 : Int) < (n : Int)
    · go_wp2
      go_ret
      exact ⟨rfl, HB2.out⟩
    · by_cases h2 : (100 : Int) < (kn : Int)
      · go_wp2
        go_ret
        exact ⟨rfl, HB2.out⟩
      · have hn1 : n ≤ 120 := by omega
        have hkn1 : kn ≤ 100 := by omega
        have HTOT : Hid (sumO os ≤ 1048576) := (HS.out rfl).1
        clear HS
        go_wp2_with fail
        refine (new_any 0 (by omega) none 0 [] [] w2 (fj_nil w2) (Nat.le_refl _) (by omega) (by simp)).mono ?_
        rintro e w3 ⟨hb3, hna⟩
        obtain ⟨d, mb, T1, fb1, rfl, hk1⟩ := new_kn HB2.out hb3 hna HNW.out
        have K0 : Hid (K3 w T1 w3 d mb fb1 (newM 0 []) (.slice none 0 0) [] none [] 0 (sumO (os.take 0))) :=
          ⟨hk1.pd, Hist.of hk1.pd rfl, hk1.low, hk1.below, ⟨Nat.le_refl _, Nat.le_refl _, Nat.le_refl _⟩, ⟨World.ownsRow_nil _ _ _ _, (by intro g hg; cases hg), by simp⟩, by simp, Nat.le_refl _, fun j s hj => by simp at hj, (fun ad e => by cases e), rfl⟩
        clear hb3 hna hk1 HB2
        go_wp2_with fail
        go_loopw [10, 11, 12] (fun sv dv i wr => ∃ (k : Nat) (T : Nat → Nat) (fb : Nat → Nat) (m : Dm) (L : List He) (da : Option Addr) (dc : Nat) (dn : List ByteArray), k ≤ n ∧ i = .int .i64 (k : Int) ∧ dv = .slice da dn.length dc ∧ Hid (K3 w T wr d mb fb m sv L da dn k (sumO (os.take k)))) (fun _ _ i _ => n - (intOf i).toNat)
        case atStart => exact ⟨0, T1, fb1, newM 0 [], [], none, 0, [], Nat.zero_le _, rfl, rfl, K0.out⟩
        case round =>
          clear K0
          obtain ⟨k, T, fb, m, L, da, dc, dn, hk, rfl, rfl, K⟩ := hrel
          rename World => W
          by_cases hlt : k < n
          · have hlt' : (k : Int) < (n : Int) := by omega
            have hks : k < os.length := by rw [← HO.out.2.2]; exact hlt
            obtain ⟨o, ho⟩ : ∃ o, os[k]? = some o := ⟨_, List.getElem?_eq_getElem hks⟩
            obtain ⟨b, off, rfl, hbl, hcl⟩ := (HO.out.1.below K.out.go).at_ k o ho
            have c0 : W.cell? ⟨b, off + k * 8, none⟩ = some (.int .i64 o.kind) := hcl 0 (by omega)
            have c1 : W.cell? ⟨b, off + k * 8 + 1, none⟩ = some (.string o.name) := hcl 1 (by omega)
            have c2 : W.cell? ⟨b, off + k * 8 + 2, none⟩ = some (.string o.too) := hcl 2 (by omega)
            have c3 : W.cell? ⟨b, off + k * 8 + 3, none⟩ = some (.slice o.da o.data.length o.dc) := hcl 3 (by omega)
            have c4 : W.cell? ⟨b, off + k * 8 + 4, none⟩ = some (.int .i64 o.x) := hcl 4 (by omega)
            have c5 : W.cell? ⟨b, off + k * 8 + 5, none⟩ = some (.int .i64 o.y) := hcl 5 (by omega)
            have c6 : W.cell? ⟨b, off + k * 8 + 6, none⟩ = some (.int .i64 o.z) := hcl 6 (by omega)
            have c7 : W.cell? ⟨b, off + k * 8 + 7, none⟩ = some (.slice o.ka o.keep.length o.kc) := hcl 7 (by omega)
            have HOK : Hid (OpOk w o ∧ True ∧ sumO (os.take (k + 1)) = sumO (os.take k) + (o.data.length + o.keep.length) ∧ sumO (os.take (k + 1)) ≤ 1048576) := ⟨HO.out.1.ok o (List.mem_of_getElem? ho), trivial, sumO_take ho, Nat.le_trans (sumO_le os (k + 1)) HTOT.out⟩
            obtain ⟨sa, sc, rfl⟩ := own_slice K.out.hl.row
            clear hcl ho hks
            go_upto_block 2 with fail
            have K1 : Hid (K3 w T (W.alloc (.cells #[.int .i64 o.kind, .string o.name, .string o.too, .slice o.da o.data.length o.dc, .int .i64 o.x, .int .i64 o.y, .int .i64 o.z, .slice o.ka o.keep.length o.kc] 33)) d mb fb m (.slice sa L.length sc) L da dn k (sumO (os.take k))) := K.out.below ((Below.refl _ _).alloc (Nat.le_refl _) _)
            have B1 : Hid (Ob T (W.alloc (.cells #[.int .i64 o.kind, .string o.name, .string o.too, .slice o.da o.data.length o.dc, .int .i64 o.x, .int .i64 o.y, .int .i64 o.z, .slice o.ka o.keep.length o.kc] 33)) W.heap.size o) := ⟨by simp, K.out.pd.fresh (Nat.le_refl _), fun t ht => by
              rw [Go.Joins.cell_alloc_mark_at W _ _ _ _ _ rfl]
              match t, ht with
              | 0, _ => rfl
              | 1, _ => rfl
              | 2, _ => rfl
              | 3, _ => rfl
              | 4, _ => rfl
              | 5, _ => rfl
              | 6, _ => rfl
              | 7, _ => rfl⟩
            clear K c0 c1 c2 c3 c4 c5 c6 c7
            generalize W.alloc (.cells #[.int .i64 o.kind, .string o.name, .string o.too, .slice o.da o.data.length o.dc, .int .i64 o.x, .int .i64 o.y, .int .i64 o.z, .slice o.ka o.keep.length o.kc] 33) = W0 at *
            generalize W.heap.size = ob at *
            go_cut [10, 11, 14, 15] from 51 to 198 (fun sv dv _ _ wx => ∃ (T : Nat → Nat) (fb : Nat → Nat) (m : Dm) (L : List He) (da : Option Addr) (dc : Nat) (dn : List ByteArray), dv = .slice da dn.length dc ∧ Hid (K3 w T wx d mb fb m sv L da dn (k + 1) (sumO (os.take (k + 1)))))
            case first =>
              have k0 : W0.cell? ⟨ob, 0, none⟩ = some (.int .i64 o.kind) := B1.out.at_ 0 (by omega)
              have k1 : W0.cell? ⟨ob, 1, none⟩ = some (.string o.name) := B1.out.at_ 1 (by omega)
              have hch : m.ch.length ≤ 1000000 := by have := K1.out.szs; omega
              by_cases e1 : o.kind = 1
              · as_aux_lemma =>
                  rw [e1] at k0
                  go_wp2_with fail
                  refine (create_any K1.out.pd o.name HOK.out.1.nm.1 hch).mono ?_
                  rintro e w5 ⟨rfl, T5, fb5, hp5, hg5⟩
                  have K5 : Hid (K3 w T5 w5 d mb fb5 (m.create o.name).2 (.slice none 0 0) [] da dn (k + 1) (sumO (os.take (k + 1))) ∧ Hl w T5 w5 (.slice sa L.length sc) L) := K1.out.disk hp5 hg5 (K1.out.hist.create _) (by have z := Add.create K1.out.hist o.name; have z2 := K1.out.szs; have z3 := HOK.out.2.2.1; exact ⟨z.1, by have := z.2; omega⟩)
                  have HH : Hid (∀ e ∈ L, (m.create o.name).1 ≠ 0 ∨ ky e.name ≠ ky o.name → Hd (m.create o.name).2 (e.name, e.data)) := fun e he => (K1.out.hd e he).create K1.out.hist o.name
                  have k1' : w5.cell? ⟨ob, 1, none⟩ = some (.string o.name) := (B1.out.goes hg5).at_ 1 (by omega)
                  have hll := K1.out.ll
                  clear hp5 hg5 k0 k1
                  generalize (m.create o.name).1 = r at *
                  generalize (m.create o.name).2 = m5 at *
                  by_cases hr : r = 0
                  · subst hr
                    go_wp2_with fail
                    refine (gone_any sa sc L.length _ L w5 K5.out.2.row rfl (by omega) o.name).mono ?_
                    rintro e w6 ⟨a', c', rfl, hrow, hb6⟩
                    have K6 : Hid (K3 w T5 w6 d mb fb5 m5 (.slice a' (heGone L o.name).length c') (heGone L o.name) da dn (k + 1) (sumO (os.take (k + 1)))) := (K5.out.1.below hb6).with (K5.out.2.gone K5.out.1.go.size (fun b hb => K5.out.1.pd.fresh hb) hb6 hrow) (fun e he => HH.out e (mem_heGone he).1 (.inr (mem_heGone he).2)) (by have := heGone_le L o.name; omega)
                    clear hrow hb6
                    go_wp2_with fail
                    go_meet
                    case rel => exact ⟨T5, fb5, _, _, da, dc, dn, rfl, K6.out⟩
                  · have hr' : (r == 0) = false := by simp [hr]
                    have K6 : Hid (K3 w T5 w5 d mb fb5 m5 (.slice sa L.length sc) L da dn (k + 1) (sumO (os.take (k + 1)))) := K5.out.1.with K5.out.2 (fun e he => HH.out e he (.inl hr)) (by omega)
                    go_wp2_with fail
                    go_meet
                    case rel => exact ⟨T5, fb5, _, _, da, dc, dn, rfl, K6.out⟩
              by_cases e2 : o.kind = 2
              · as_aux_lemma =>
                  rw [e2] at k0
                  have k3 : W0.cell? ⟨ob, 3, none⟩ = some (.slice o.da o.data.length o.dc) := B1.out.at_ 3 (by omega)
                  obtain ⟨i8, hi8, hy0, hy1, hy2⟩ := info_parts infoB
                  have HIB : Hid (IsB W0.drew o.da o.data) := isB_goes (T := fun _ => 0) (T' := fun _ => 0) HOK.out.1.isB (fun _ _ => rfl) (Goes.below (T := fun _ => 0) K1.out.go.drew)
                  have HUS : Hid (m.used + o.data.length ≤ 4611686018427387903) := by have z := K1.out.szs.2.2; have z2 := HOK.out.2.2; show _ ≤ _; omega
                  go_wp2_with fail
                  go_region_law (first
                    | (refine step_cloneB _ (by rfl) (.const (.slice none 0 0)) (.tmp 80) 30 (by rfl) 5 i8 Try.underlying30 hi8 hy0 hy1 hy2 (by rfl) o.da o.data.length o.dc o.data (by simp [Act.eval, Act.put]) rfl HOK.out.1.dn HIB.out HOK.out.1.big.1 ?_; intro a1 c1 W1 hn1 hb1; have HC : Hid (New 5 W0.drew.heap.size W1 a1 c1 o.data ∧ Below W0.heap.size W0 W1) := ⟨hn1, ((Below.refl _ _).drew).trans hb1⟩; have k11 : W1.cell? ⟨ob, 1, none⟩ = some (.string o.name) := (B1.out.goes (Goes.below (T := T) HC.out.2)).at_ 1 (by omega); clear hn1 hb1)
                    | ((try go_simp); go_at_call 27; refine (append_any (K1.out.below HC.out.2).pd o.name HOK.out.1.nm.1 a1 c1 o.data (Hb.of (HC.out.1.lower (Nat.zero_le _))).isB (Hb.of (HC.out.1.lower (Nat.zero_le _))).cap (Hb.of (HC.out.1.lower (Nat.zero_le _))).le (Hb.of (HC.out.1.lower (Nat.zero_le _))).max (fun ad e => K1.out.pd.fresh (by subst e; exact (HC.out.1.row.lt ad.block rfl).1)) HUS.out).mono ?_; rintro e w5 ⟨rfl, T5, hp5, hg5⟩; have K5 : Hid (K3 w T5 w5 d mb fb (m.append o.name o.data).2 (.slice none 0 0) [] da dn (k + 1) (sumO (os.take (k + 1))) ∧ Hl w T5 w5 (.slice sa L.length sc) L) := (K1.out.below HC.out.2).disk hp5 hg5 (K1.out.hist.append _ _) (by have z := Add.append K1.out.hist o.name o.data; have z2 := K1.out.szs; have z3 := HOK.out.2.2.1; exact ⟨z.1, by have := z.2; omega⟩); have K6 : Hid (K3 w T5 w5 d mb fb (m.append o.name o.data).2 (.slice sa L.length sc) L da dn (k + 1) (sumO (os.take (k + 1)))) := K5.out.1.with K5.out.2 (fun e he => (K1.out.hd e he).append K1.out.pd.sures o.name o.data) (by have := K1.out.ll; omega); clear hp5 hg5))
                  all_goals
                    go_wp2_with fail
                    go_meet
                    case rel => exact ⟨T5, fb, _, _, da, dc, dn, rfl, K6.out⟩
              by_cases e3 : o.kind = 3
              · as_aux_lemma =>
                  rw [e3] at k0
                  go_wp2_with fail
                  refine (sync_any K1.out.pd o.name HOK.out.1.nm.1).mono ?_
                  rintro e w5 ⟨rfl, hp5, hg5⟩
                  have K5 : Hid (K3 w T w5 d mb fb (m.sync o.name).2 (.slice none 0 0) [] da dn (k + 1) (sumO (os.take (k + 1))) ∧ Hl w T w5 (.slice sa L.length sc) L) := K1.out.disk hp5 hg5 (K1.out.hist.sync _) (by have z := Add.sync m o.name; have z2 := K1.out.szs; have z3 := HOK.out.2.2.1; exact ⟨z.1, by have := z.2; omega⟩)
                  have HH : Hid (∀ e ∈ L, Hd (m.sync o.name).2 (e.name, e.data)) := fun e he => (K1.out.hd e he).sync o.name
                  have HOKS : Hid ((m.sync o.name).1 = 0 → ∃ i f, look (m.sync o.name).2.now (ky o.name) = some i ∧ (m.sync o.name).2.fl[i]? = some f ∧ f.sure = f.data.length ∧ ((m.sync o.name).2.read o.name) = (f.data, 0)) := fun h => (sync_ok K1.out.hist h).2.2
                  have B5 : Hid (Ob T w5 ob o) := B1.out.goes hg5
                  have k1' : w5.cell? ⟨ob, 1, none⟩ = some (.string o.name) := B5.out.at_ 1 (by omega)
                  have hll := K1.out.ll
                  clear hp5 hg5 k0 k1
                  generalize (m.sync o.name).1 = r at *
                  generalize (m.sync o.name).2 = m5 at *
                  by_cases hr : r = 0
                  · subst hr
                    obtain ⟨i5, f5, l1, l2, l3, l4⟩ := HOKS.out rfl
                    have HL : Hid (Hd m5 (o.name, f5.data)) := ⟨i5, f5, l1, l2, by unfold sureB; rw [l3, List.take_length]; exact List.prefix_refl _⟩
                    clear HOKS l1 l2 l3
                    go_wp2_with fail
                    refine (read_any K5.out.1.pd o.name HOK.out.1.nm.1).mono ?_
                    rintro e w6 ⟨a6, c6, rfl, hn6, hb6⟩
                    rw [l4] at hn6 ⊢
                    simp only at hn6 ⊢
                    have K6 : Hid (K3 w T w6 d mb fb m5 (.slice none 0 0) [] da dn (k + 1) (sumO (os.take (k + 1))) ∧ Hl w T w6 (.slice sa L.length sc) L) := ⟨K5.out.1.below hb6, K5.out.2.goes (Goes.below hb6)⟩
                    have HN6 : Hid (IsB w6 a6 f5.data ∧ (a6 = none → c6 = 0) ∧ ∀ ad, a6 = some ad → T ad.block = 0 ∧ ad.block < w6.heap.size) := ⟨(Hb.of (hn6.lower (Nat.zero_le _))).isB, (Hb.of (hn6.lower (Nat.zero_le _))).cap, fun ad e => by subst e; exact ⟨K5.out.1.pd.fresh (hn6.row.lt ad.block rfl).1, (hn6.row.lt ad.block rfl).2⟩⟩
                    have k16 : w6.cell? ⟨ob, 1, none⟩ = some (.string o.name) := (B5.out.goes (Goes.below (T := T) hb6)).at_ 1 (by omega)
                    have k1a : (w6.alloc (.cells #[.string o.name, .slice a6 f5.data.length c6] 59)).cell? ⟨ob, 1, none⟩ = some (.string o.name) := ((B5.out.goes (Goes.below (T := T) hb6)).goes (Goes.below (T := T) ((Below.refl w6.heap.size w6).alloc (Nat.le_refl _) _))).at_ 1 (by omega)
                    have B6 : Hid (Ob T w6 ob o) := B5.out.goes (Goes.below (T := T) hb6)
                    have HG : Hid (∀ X, Below w6.heap.size w6 X → Calls Try.prog 26 #[.slice sa L.length sc, .string o.name] X fun e w' => ∃ a' c', e = .returned (.slice a' (heGone L o.name).length c') ∧ w'.ownsRow w6.heap.size 59 2 (.slice a' (heGone L o.name).length c') (heGone L o.name).length (heRow (heGone L o.name)) ∧ Below w6.heap.size w6 w' ∧ Below X.heap.size X w') := fun X hX => (gone_any sa sc L.length _ L X (K6.out.2.goes (Goes.below hX)).row rfl (by omega) o.name).mono (by
                      rintro e w' ⟨a', c', h1, h2, h3⟩
                      refine ⟨a', c', h1, ⟨h2.1, ?_⟩, hX.trans (h3.mono hX.size), h3⟩
                      rcases h2.2 with h0 | ⟨g, cap, cur, q1, q2, q3⟩
                      · exact .inl h0
                      · exact .inr ⟨g, cap, cur, q1, Nat.le_trans hX.size q2, q3⟩)
                    obtain ⟨ih, hih, hz0, hz1, hz2⟩ := info_parts infoH
                    have hgl := heGone_le L o.name
                    clear hn6 hb6 l4 k1'
                    go_wp2_with fail
                    have hgb : (heGone L o.name).length ≤ 200 := by omega
                    go_region_law (first
                      | ((try go_simp); go_at_call 26; refine (HG.out _ (by first | exact (Below.refl _ _).drew | exact ((Below.refl _ _).alloc (Nat.le_refl _) _).drew | exact ((Below.refl _ _).drew).alloc (Nat.le_refl _) _)).mono ?_; rintro e w7 ⟨a7, c7, rfl, hr7, hb7, hx7⟩; have H7 : Hid (w7.ownsRow w6.heap.size 59 2 (.slice a7 (heGone L o.name).length c7) (heGone L o.name).length (heRow (heGone L o.name)) ∧ Below w6.heap.size w6 w7) := ⟨hr7, hb7⟩; have HX7 := HIDK hx7; have k17 : w7.cell? ⟨ob, 1, none⟩ = some (.string o.name) := (B6.out.goes (Goes.below (T := T) H7.out.2)).at_ 1 (by omega); clear hr7 hb7 hx7)
                      | (refine step_app _ (by rfl) (.tmp 102) (.tmp 107) 52 (by rfl) w6.heap.size 59 ih _ 2 40 Try.underlying52 hih hz0 hz1 hz2 rfl (by omega) (.slice a7 (heGone L o.name).length c7) (heGone L o.name).length (heRow (heGone L o.name)) (by simp [Act.eval, Act.put]) (H7.out.1.alloc _) ⟨w7.heap.size, 0, none⟩ 1 1 [.string o.name, .slice a6 f5.data.length c6] (by simp [Act.eval, Act.put]) (by rfl) (World.news_of_block (heap_alloc_new w7 _)) (by intro u hu; simp at hu; rcases hu with rfl | rfl <;> rfl) (by intro _; omega) (by unfold maxLen; omega) (by omega) (Nat.le_trans H7.out.2.size (Keep.alloc [] _ _).size) (w7.heap.size + 1) (by simp) ?_; intro g8 c8 w8 hown8 hgr8 hat8 hlt8; have K8 : Hid (K3 w T w8 d mb fb m5 (.slice (some ⟨g8, 0, none⟩) ((heGone L o.name).length + 1) c8) (heGone L o.name ++ [⟨o.name, f5.data, a6, c6⟩]) da dn (k + 1) (sumO (os.take (k + 1)))) := K6.out.1.put K6.out.2 ((H7.out.2.alloc H7.out.2.size _).grown hgr8 (Nat.le_trans H7.out.2.size (Keep.alloc [] _ _).size) (fun g hg => (H7.out.1.lt g hg).1)) hown8 (Nat.le_refl _) (fun e he => (mem_heGone he).1) (fun e he => HH.out e (mem_heGone he).1) HN6.out HL.out (by omega); clear hown8 hgr8 hat8 hlt8)
                      | (refine step_app _ (by rfl) (.tmp 102) (.tmp 107) 52 (by rfl) w6.heap.size 59 ih _ 2 40 Try.underlying52 hih hz0 hz1 hz2 rfl (by omega) (.slice a7 (heGone L o.name).length c7) (heGone L o.name).length (heRow (heGone L o.name)) (by simp [Act.eval, Act.put]) H7.out.1 ⟨w6.heap.size, 0, none⟩ 1 1 [.string o.name, .slice a6 f5.data.length c6] (by simp [Act.eval, Act.put]) (by rfl) (World.news_of_block ((HX7.out.block _ (by simp)).trans (heap_alloc_new w6 _))) (by intro u hu; simp at hu; rcases hu with rfl | rfl <;> rfl) (by intro _; omega) (by unfold maxLen; omega) (by omega) H7.out.2.size w7.heap.size rfl ?_; intro g8 c8 w8 hown8 hgr8 hat8 hlt8; have K8 : Hid (K3 w T w8 d mb fb m5 (.slice (some ⟨g8, 0, none⟩) ((heGone L o.name).length + 1) c8) (heGone L o.name ++ [⟨o.name, f5.data, a6, c6⟩]) da dn (k + 1) (sumO (os.take (k + 1)))) := K6.out.1.put K6.out.2 (H7.out.2.grown hgr8 H7.out.2.size (fun g hg => (H7.out.1.lt g hg).1)) hown8 (Nat.le_refl _) (fun e he => (mem_heGone he).1) (fun e he => HH.out e (mem_heGone he).1) HN6.out HL.out (by omega); clear hown8 hgr8 hat8 hlt8))
                    all_goals
                      go_wp2_with fail
                      go_meet
                      case rel => exact ⟨T, fb, _, _, da, dc, dn, rfl, K8.out⟩
                  · have hr' : (r == 0) = false := by simp [hr]
                    have K6 : Hid (K3 w T w5 d mb fb m5 (.slice sa L.length sc) L da dn (k + 1) (sumO (os.take (k + 1)))) := K5.out.1.with K5.out.2 HH.out (by omega)
                    go_wp2_with fail
                    go_meet
                    case rel => exact ⟨T, fb, _, _, da, dc, dn, rfl, K6.out⟩
              by_cases e4 : o.kind = 4
              · as_aux_lemma =>
                  rw [e4] at k0
                  have k2 : W0.cell? ⟨ob, 2, none⟩ = some (.string o.too) := B1.out.at_ 2 (by omega)
                  go_wp2_with fail
                  refine (rename_any K1.out.pd o.name o.too HOK.out.1.nm.1 HOK.out.1.nm.2 hch (by have := K1.out.szs.2.2; have z := sumO_le os k; have z2 := HTOT.out; omega)).mono ?_
                  rintro e w5 ⟨rfl, T5, hp5, hg5⟩
                  have K5 : Hid (K3 w T5 w5 d mb fb (m.rename o.name o.too).2 (.slice none 0 0) [] da dn (k + 1) (sumO (os.take (k + 1))) ∧ Hl w T5 w5 (.slice sa L.length sc) L) := K1.out.disk hp5 hg5 (K1.out.hist.rename _ _) (by have z := Add.rename K1.out.hist o.name o.too; have z2 := K1.out.szs; have z3 := HOK.out.2.2.1; exact ⟨z.1, by have := z.2; omega⟩)
                  have HH : Hid (∀ e ∈ L, ((m.rename o.name o.too).1 ≠ 0 ∨ o.name = o.too) ∨ (ky e.name ≠ ky o.name ∧ ky e.name ≠ ky o.too) → Hd (m.rename o.name o.too).2 (e.name, e.data)) := fun e he => (K1.out.hd e he).rename o.name o.too
                  have B5 : Hid (Ob T5 w5 ob o) := B1.out.goes hg5
                  have k1' : w5.cell? ⟨ob, 1, none⟩ = some (.string o.name) := B5.out.at_ 1 (by omega)
                  have k2' : w5.cell? ⟨ob, 2, none⟩ = some (.string o.too) := B5.out.at_ 2 (by omega)
                  have hll := K1.out.ll
                  clear hp5 hg5 k0 k1 k2
                  generalize (m.rename o.name o.too).1 = r at *
                  generalize (m.rename o.name o.too).2 = m5 at *
                  by_cases hr : r = 0
                  · subst hr
                    by_cases ht : o.name = o.too
                    · have K6 : Hid (K3 w T5 w5 d mb fb m5 (.slice sa L.length sc) L da dn (k + 1) (sumO (os.take (k + 1)))) := K5.out.1.with K5.out.2 (fun e he => HH.out e he (.inl (.inr ht))) (by omega)
                      rw [← ht] at k2'
                      go_wp2_with fail
                      go_meet
                      case rel => exact ⟨T5, fb, _, _, da, dc, dn, rfl, K6.out⟩
                    · have ht2 : ¬ o.name.toList = o.too.toList := fun e => ht (ByteArray.ext (Array.toList_inj.1 (by rw [← ByteArray.toList_eq, ← ByteArray.toList_eq]; exact e)))
                      have ht3 : (o.name.toList == o.too.toList) = false := by simp [ht2]
                      have hbd : Below w5.heap.size w5 w5.drew := (Below.refl _ _).drew
                      have KD : Hid (K3 w T5 w5.drew d mb fb m5 (.slice none 0 0) [] da dn (k + 1) (sumO (os.take (k + 1))) ∧ Hl w T5 w5.drew (.slice sa L.length sc) L) := ⟨K5.out.1.below hbd, K5.out.2.goes (Goes.below hbd)⟩
                      clear hbd
                      go_wp2_with fail
                      go_region_law (first
                        | ((try go_simp); go_at_call_of 26 a6; refine (gone_any a6 c6 (heGone L o.name).length _ (heGone L o.name) w6 HG6.out.row rfl (by have := heGone_le L o.name; omega) o.too).mono ?_; rintro e w7 ⟨a7, c7, rfl, hr7, hb7⟩; have K7 : Hid (K3 w T5 w7 d mb fb m5 (.slice a7 (heGone (heGone L o.name) o.too).length c7) (heGone (heGone L o.name) o.too) da dn (k + 1) (sumO (os.take (k + 1)))) := (K6.out.below hb7).with (HG6.out.gone K6.out.go.size (fun b hb => K6.out.pd.fresh hb) hb7 hr7) (fun e he => HH.out e (mem_heGone (mem_heGone he).1).1 (.inr ⟨(mem_heGone (mem_heGone he).1).2, (mem_heGone he).2⟩)) (by have z1 := heGone_le L o.name; have z2 := heGone_le (heGone L o.name) o.too; omega); clear hr7 hb7)
                        | ((try go_simp); go_at_call 26; refine (gone_any sa sc L.length _ L w5.drew KD.out.2.row rfl (by omega) o.name).mono ?_; rintro e w6 ⟨a6, c6, rfl, hr6, hb6⟩; have K6 : Hid (K3 w T5 w6 d mb fb m5 (.slice none 0 0) [] da dn (k + 1) (sumO (os.take (k + 1)))) := KD.out.1.below hb6; have HG6 : Hid (Hl w T5 w6 (.slice a6 (heGone L o.name).length c6) (heGone L o.name)) := KD.out.2.gone KD.out.1.go.size (fun b hb => KD.out.1.pd.fresh hb) hb6 hr6; have k26 : w6.cell? ⟨ob, 2, none⟩ = some (.string o.too) := ((B5.out.goes (Goes.below (T := T5) ((Below.refl w5.heap.size w5).drew))).goes (Goes.below (T := T5) hb6)).at_ 2 (by omega); clear hr6 hb6))
                      all_goals
                        go_wp2_with fail
                        go_meet
                        case rel => exact ⟨T5, fb, _, _, da, dc, dn, rfl, K7.out⟩
                  · have hr' : (r == 0) = false := by simp [hr]
                    have K6 : Hid (K3 w T5 w5 d mb fb m5 (.slice sa L.length sc) L da dn (k + 1) (sumO (os.take (k + 1)))) := K5.out.1.with K5.out.2 (fun e he => HH.out e he (.inl (.inl hr))) (by omega)
                    go_wp2_with fail
                    go_meet
                    case rel => exact ⟨T5, fb, _, _, da, dc, dn, rfl, K6.out⟩
              by_cases e5 : o.kind = 5
              · as_aux_lemma =>
                  rw [e5] at k0
                  go_wp2_with fail
                  refine (delete_any K1.out.pd o.name HOK.out.1.nm.1 hch (by have := K1.out.szs.2.2; have z := sumO_le os k; have z2 := HTOT.out; omega)).mono ?_
                  rintro e w5 ⟨rfl, T5, hp5, hg5⟩
                  have K5 : Hid (K3 w T5 w5 d mb fb (m.delete o.name).2 (.slice none 0 0) [] da dn (k + 1) (sumO (os.take (k + 1))) ∧ Hl w T5 w5 (.slice sa L.length sc) L) := K1.out.disk hp5 hg5 (K1.out.hist.delete _) (by have z := Add.delete m o.name; have z2 := K1.out.szs; have z3 := HOK.out.2.2.1; exact ⟨z.1, by have := z.2; omega⟩)
                  have HH : Hid (∀ e ∈ L, (m.delete o.name).1 ≠ 0 ∨ ky e.name ≠ ky o.name → Hd (m.delete o.name).2 (e.name, e.data)) := fun e he => (K1.out.hd e he).delete o.name
                  have k1' : w5.cell? ⟨ob, 1, none⟩ = some (.string o.name) := (B1.out.goes hg5).at_ 1 (by omega)
                  have hll := K1.out.ll
                  clear hp5 hg5 k0 k1
                  generalize (m.delete o.name).1 = r at *
                  generalize (m.delete o.name).2 = m5 at *
                  by_cases hr : r = 0
                  · subst hr
                    go_wp2_with fail
                    refine (gone_any sa sc L.length _ L w5 K5.out.2.row rfl (by omega) o.name).mono ?_
                    rintro e w6 ⟨a', c', rfl, hrow, hb6⟩
                    have K6 : Hid (K3 w T5 w6 d mb fb m5 (.slice a' (heGone L o.name).length c') (heGone L o.name) da dn (k + 1) (sumO (os.take (k + 1)))) := (K5.out.1.below hb6).with (K5.out.2.gone K5.out.1.go.size (fun b hb => K5.out.1.pd.fresh hb) hb6 hrow) (fun e he => HH.out e (mem_heGone he).1 (.inr (mem_heGone he).2)) (by have := heGone_le L o.name; omega)
                    clear hrow hb6
                    go_wp2_with fail
                    go_meet
                    case rel => exact ⟨T5, fb, _, _, da, dc, dn, rfl, K6.out⟩
                  · have hr' : (r == 0) = false := by simp [hr]
                    have K6 : Hid (K3 w T5 w5 d mb fb m5 (.slice sa L.length sc) L da dn (k + 1) (sumO (os.take (k + 1)))) := K5.out.1.with K5.out.2 (fun e he => HH.out e he (.inl hr)) (by omega)
                    go_wp2_with fail
                    go_meet
                    case rel => exact ⟨T5, fb, _, _, da, dc, dn, rfl, K6.out⟩
              by_cases e6 : o.kind = 6
              · as_aux_lemma =>
                  rw [e6] at k0
                  go_wp2_with fail
                  refine (syncDir_any K1.out.pd).mono ?_
                  rintro e w5 ⟨rfl, hp5, hg5⟩
                  have HS5 : Hid (Pd T w5 d mb fb m.syncDir.2 ∧ Goes T T W0 w5) := ⟨hp5, hg5⟩
                  have HAD : Hid (m.syncDir.2.now.length ≤ m.now.length + 1 ∧ m.syncDir.2.used ≤ sumO (os.take (k + 1))) := by
                    have z := Add.syncDir m
                    have z2 := K1.out.szs
                    have z3 := HOK.out.2.2.1
                    exact ⟨z.1, by have := z.2; omega⟩
                  clear hp5 hg5 k0 k1
                  obtain ⟨r, hr0⟩ : ∃ r, r = m.syncDir.1 := ⟨_, rfl⟩
                  have HR : Hid (r = m.syncDir.1) := hr0
                  rw [← hr0]
                  clear hr0
                  by_cases hr : r = 0
                  · subst hr
                    go_wp2_with fail
                    refine (files_any HS5.out.1).mono ?_
                    rintro e w6 ⟨v6, ds6, rfl, hf6, hb6⟩
                    obtain ⟨a6, c6, rfl⟩ := own_slice hf6.row
                    have HF6 : Hid (FilesAt w5.heap.size w6 (.slice a6 m.syncDir.2.files.length c6) m.syncDir.2.files ds6 ∧ Below w5.heap.size w5 w6) := ⟨hf6, hb6⟩
                    clear hf6 hb6
                    go_wp2_with fail
                    refine (names_any a6 c6 _ _ ds6 w6 HF6.out.1 (by have := HAD.out.1; have := K1.out.szs.2.1; show (m.syncDir.2.now.map _).length ≤ _; rw [List.length_map]; omega)).mono ?_
                    rintro e w7 ⟨a7, c7, rfl, hr7, hb7⟩
                    have K7 : Hid (K3 w T w7 d mb fb m.syncDir.2 (.slice sa L.length sc) L a7 (m.syncDir.2.files.map (·.name)) (k + 1) (sumO (os.take (k + 1)))) := K3.synced K1.out HS5.out.1 HS5.out.2 K1.out.hist.syncDir (syncDir_ok HR.out.symm) HAD.out (fun e he => (K1.out.hd e he).syncDir) (HF6.out.2.trans (hb7.mono HF6.out.2.size)) hr7 HF6.out.2.size
                    clear hr7 hb7
                    go_wp2_with fail
                    go_meet
                    case rel => exact ⟨T, fb, _, _, a7, c7, _, by rw [List.length_map], K7.out⟩
                  · have hr' : (r == 0) = false := by simp [hr]
                    have K5 : Hid (K3 w T w5 d mb fb m.syncDir.2 (.slice none 0 0) [] da dn (k + 1) (sumO (os.take (k + 1))) ∧ Hl w T w5 (.slice sa L.length sc) L) := K1.out.disk HS5.out.1 HS5.out.2 (K1.out.hist.syncDir_no (by rw [← HR.out]; exact hr)) HAD.out
                    have K6 : Hid (K3 w T w5 d mb fb m.syncDir.2 (.slice sa L.length sc) L da dn (k + 1) (sumO (os.take (k + 1)))) := K5.out.1.with K5.out.2 (fun e he => (K1.out.hd e he).syncDir) (by have := K1.out.ll; omega)
                    go_wp2_with fail
                    go_meet
                    case rel => exact ⟨T, fb, _, _, da, dc, dn, rfl, K6.out⟩
              · as_aux_lemma =>
                  have n1 : (o.kind == 1) = false := by simp [e1]
                  have n2 : (o.kind == 2) = false := by simp [e2]
                  have n3 : (o.kind == 3) = false := by simp [e3]
                  have n4 : (o.kind == 4) = false := by simp [e4]
                  have n5 : (o.kind == 5) = false := by simp [e5]
                  have n6 : (o.kind == 6) = false := by simp [e6]
                  have K6 : Hid (K3 w T W0 d mb fb m (.slice sa L.length sc) L da dn (k + 1) (sumO (os.take (k + 1)))) := { K1.out with szs := by have z := K1.out.szs; have z3 := HOK.out.2.2.1; exact ⟨by omega, by omega, by omega⟩, ll := by have := K1.out.ll; omega }
                  go_wp2_with fail
                  go_meet
                  case rel => exact ⟨T, fb, _, _, da, dc, dn, rfl, K6.out⟩
            case rest =>
             as_aux_lemma =>
              obtain ⟨T2, fb2, m2, L2, da2, dc2, dn2, rfl, K2⟩ := hcut
              rename World => W2
              clear B1 K1 HOK
              obtain ⟨sa2, sc2, rfl⟩ := own_slice K2.out.hl.row
              have hkn := HK.out.2.1
              subst hkn
              have hs1 := K2.out.szs.1
              have hs2 := K2.out.szs.2.1
              have hs3 := K2.out.ll
              have HIN : Hid (∀ X, Below W2.heap.size W2 X → IntsAt X ka ks) := fun X hX => (HK.out.1.below K2.out.go).below hX
              go_wp2_with fail
              refine (image_any K2.out.pd 1099511627776 ka kc ks (HIN.out _ (Below.refl _ _)) hkc hkc2 HK.out.2.2.1 (by omega) (by omega)).mono ?_
              rintro e w5 ⟨v5, ds5, rfl, hf5, hb5⟩
              obtain ⟨a5, c5, rfl⟩ := own_slice hf5.row
              have H5 : Hid (FilesAt W2.heap.size w5 (.slice a5 (m2.image 1099511627776 ks).length c5) (m2.image 1099511627776 ks) ds5 ∧ Below W2.heap.size W2 w5) := ⟨hf5, hb5⟩
              have hil : (m2.image 1099511627776 ks).length ≤ 100000 := by show (told _ _ _).length ≤ _; rw [told_length]; have := dirAt_len m2 1099511627776; omega
              have hil0 : (m2.image 0 ks).length ≤ 100000 := by show (told _ _ _).length ≤ _; rw [told_length]; have := dirAt_len m2 0; omega
              clear hf5 hb5
              go_wp2_with fail
              refine (image_any (K2.out.pd.below H5.out.2) 0 ka kc ks (HIN.out _ H5.out.2) hkc hkc2 HK.out.2.2.1 (by omega) (by omega)).mono ?_
              rintro e w6 ⟨v6, ds6, rfl, hf6, hb6⟩
              obtain ⟨a6, c6, rfl⟩ := own_slice hf6.row
              have H6 : Hid (FilesAt w5.heap.size w6 (.slice a6 (m2.image 0 ks).length c6) (m2.image 0 ks) ds6 ∧ Below w5.heap.size w5 w6 ∧ Below W2.heap.size W2 w6) := ⟨hf6, hb6, H5.out.2.trans (hb6.mono H5.out.2.size)⟩
              clear hf6 hb6
              go_wp2_with fail
              refine (names_any a6 c6 _ _ ds6 w6 H6.out.1 (by omega)).mono ?_
              rintro e w7 ⟨a7, c7, rfl, hr7, hb7⟩
              have H7 : Hid (StrAt w7 a7 dn2 ∧ (m2.image 0 ks).length = dn2.length ∧ Below w6.heap.size w6 w7 ∧ Below W2.heap.size W2 w7) := by
                have z := StrAt.of hr7
                have e : (m2.image 0 ks).map (·.name) = dn2 := by rw [image_names, dirAt_zero, K2.out.dirs]
                rw [e] at z
                exact ⟨z.1, z.2, hb7, H6.out.2.2.trans (hb7.mono H6.out.2.2.size)⟩
              clear hr7 hb7
              go_wp2_with fail
              refine (sameTexts_true a7 da2 c7 dc2 _ _ dn2 w7 H7.out.1 (K2.out.below H7.out.2.2.2).str (by have := H7.out.2.1; omega) H7.out.2.1 rfl).mono ?_
              rintro e w8 ⟨rfl, hb8⟩
              have H8 : Hid (Below w5.heap.size w5 w8 ∧ Below W2.heap.size W2 w8) := ⟨(H6.out.2.1.trans (H7.out.2.2.1.mono H6.out.2.1.size)).trans (hb8.mono (Nat.le_trans H6.out.2.1.size H7.out.2.2.1.size)), H7.out.2.2.2.trans (hb8.mono H7.out.2.2.2.size)⟩
              clear hb8 H6 H7
              go_wp2_with fail
              refine (names_any a5 c5 _ _ ds5 w8 (H5.out.1.below H8.out.1) (by omega)).mono ?_
              rintro e w9 ⟨a9, c9, rfl, hr9, hb9⟩
              have H9 : Hid (StrAt w9 a9 (m2.now.map fun p => ba p.1) ∧ (m2.image 1099511627776 ks).length = (m2.now.map fun p => ba p.1).length ∧ Below w5.heap.size w5 w9 ∧ Below W2.heap.size W2 w9) := by
                have z := StrAt.of hr9
                have e : (m2.image 1099511627776 ks).map (·.name) = m2.now.map fun p => ba p.1 := by rw [image_names, dirAt_all (by omega)]
                rw [e] at z
                exact ⟨z.1, z.2, H8.out.1.trans (hb9.mono H8.out.1.size), H8.out.2.trans (hb9.mono H8.out.2.size)⟩
              clear hr9 hb9 H8
              go_wp2_with fail
              refine (files_any (K2.out.pd.below H9.out.2.2.2)).mono ?_
              rintro e w10 ⟨v10, ds10, rfl, hf10, hb10⟩
              obtain ⟨a10, c10, rfl⟩ := own_slice hf10.row
              have H10 : Hid (FilesAt w9.heap.size w10 (.slice a10 m2.files.length c10) m2.files ds10 ∧ Below w9.heap.size w9 w10) := ⟨hf10, hb10⟩
              clear hf10 hb10
              go_wp2_with fail
              refine (names_any a10 c10 _ _ ds10 w10 H10.out.1 (by show (m2.now.map _).length ≤ _; rw [List.length_map]; omega)).mono ?_
              rintro e w11 ⟨a11, c11, rfl, hr11, hb11⟩
              have H11 : Hid (StrAt w11 a11 (m2.now.map fun p => ba p.1) ∧ m2.files.length = (m2.now.map fun p => ba p.1).length ∧ StrAt w11 a9 (m2.now.map fun p => ba p.1) ∧ Below w9.heap.size w9 w11) := by
                have z := StrAt.of hr11
                rw [files_names] at z
                have hb : Below w9.heap.size w9 w11 := H10.out.2.trans (hb11.mono H10.out.2.size)
                exact ⟨z.1, z.2, H9.out.1.keep (Keep.below (bs := []) hb) (by simp), hb⟩
              clear hr11 hb11 H10
              go_wp2_with fail
              refine (sameTexts_true a9 a11 c9 c11 _ _ _ w11 H11.out.2.2.1 H11.out.1 (by rw [List.length_map]; omega) H9.out.2.1 H11.out.2.1).mono ?_
              rintro e w12 ⟨rfl, hb12⟩
              have HB12 : Hid (Below w5.heap.size w5 w12 ∧ Below W2.heap.size W2 w12) := by
                have hb : Below w9.heap.size w9 w12 := H11.out.2.2.2.trans (hb12.mono H11.out.2.2.2.size)
                exact ⟨H9.out.2.2.1.trans (hb.mono H9.out.2.2.1.size), H9.out.2.2.2.trans (hb.mono H9.out.2.2.2.size)⟩
              have K12 : Hid (K3 w T2 w12 d mb fb2 m2 (.slice sa2 L2.length sc2) L2 da2 dn2 (k + 1) (sumO (os.take (k + 1))) ∧ FilesAt W2.heap.size w12 (.slice a5 (m2.image 1099511627776 ks).length c5) (m2.image 1099511627776 ks) ds5) := ⟨K2.out.below HB12.out.2, H5.out.1.below HB12.out.1⟩
              clear hb12 H11 H9 H5 HB12 HIN K2 hil0
              go_wp2_with fail
              go_loopw [17] (fun j wr => ∃ jj : Nat, jj ≤ L2.length ∧ j = .int .i64 (jj : Int) ∧ Hid (Below w12.heap.size w12 wr)) (fun j _ => L2.length - (intOf j).toNat)
              case atStart => exact ⟨0, Nat.zero_le _, rfl, Below.refl _ _⟩
              case round =>
                obtain ⟨jj, hjj, rfl, HBW⟩ := hrel
                rename World => X
                by_cases hj : jj < L2.length
                · have hj' : (jj : Int) < (L2.length : Int) := by omega
                  obtain ⟨e, he⟩ : ∃ e, L2[jj]? = some e := ⟨_, List.getElem?_eq_getElem hj⟩
                  have hem := List.mem_of_getElem? he
                  have KX : Hid (K3 w T2 X d mb fb2 m2 (.slice sa2 L2.length sc2) L2 da2 dn2 (k + 1) (sumO (os.take (k + 1))) ∧ FilesAt W2.heap.size X (.slice a5 (m2.image 1099511627776 ks).length c5) (m2.image 1099511627776 ks) ds5) := ⟨K12.out.1.below HBW.out, K12.out.2.below HBW.out⟩
                  obtain ⟨g, rfl, q2, q3, _, hgl, cc0, cc1⟩ := he_cells KX.out.1.hl.row rfl he
                  obtain ⟨⟨f0, hf0⟩, hpre⟩ := held_there KX.out.1.hist (KX.out.1.hd e hem) (dir := 1099511627776) (by omega) ks
                  have HPRE : Hid (∀ (k : Nat) (f : Fi), (m2.image 1099511627776 ks)[k]? = some f → f.name = e.name → e.data <+: f.data) := hpre
                  have HBE : Hid (IsB X e.a e.data ∧ (e.a = none → e.c = 0)) := ⟨(KX.out.1.hl.hb e hem).1, (KX.out.1.hl.hb e hem).2.1⟩
                  clear hpre he hem hgl
                  go_wp2_with fail
                  refine (at_any a5 c5 _ _ _ ds5 X KX.out.2 e.name ⟨f0, hf0⟩ rfl (by omega)).mono ?_
                  rintro _ X1 ⟨⟨kk, rfl, f, hfk, hfn⟩, hx1⟩
                  subst hx1
                  have hkl : kk < (m2.image 1099511627776 ks).length := (List.getElem?_eq_some_iff.1 hfk).1
                  obtain ⟨x, hx⟩ : ∃ x, ds5[kk]? = some x := ⟨_, List.getElem?_eq_getElem (by rw [KX.out.2.len]; exact hkl)⟩
                  obtain ⟨g5, cap5, e5, p1, p2, d0, d1, _⟩ := KX.out.2.cells hfk hx
                  obtain ⟨rfl, _, rfl⟩ := Value.slice.inj e5
                  have hnew := Hb.of ((KX.out.2.data kk f x hfk hx).1.lower (Nat.zero_le _))
                  have HNW2 : Hid (Hb X1 x.1 x.2 f.data ∧ e.data <+: f.data) := ⟨hnew, HPRE.out kk f hfk hfn⟩
                  have hkl' : (kk : Int) < ((m2.image 1099511627776 ks).length : Int) := by omega
                  have hk0 : ¬ (kk : Int) < 0 := by omega
                  have hk0' : decide ((kk : Int) < 0) = false := by simp
                  clear hfk hfn hx e5 hnew hf0 d0
                  have HS : Hid (∀ j, Calls Try.prog 36 #[.slice e.a e.data.length e.c, .slice x.1 f.data.length x.2] (X1.drewN j) fun e w' => e = .returned (.bool true) ∧ ∃ q, w' = X1.drewN q) := fun j => (prefix_drew e.a x.1 e.c x.2 e.data.length f.data.length e.data f.data (X1.drewN j) (HBE.out.1.below (below_drewN (Below.refl _ _) _)) (HNW2.out.1.isB.below (below_drewN (Below.refl _ _) _)) HBE.out.2 HNW2.out.1.cap rfl rfl HNW2.out.1.le HNW2.out.1.max HNW2.out.2).mono (fun _ _ h => ⟨h.1, j + 1, h.2⟩)
                  go_wp2_with fail
                  go_quiet (first | (go_at_call 36; exact (HS.out _).mono (fun _ _ h => h)))
                  go_wp2
                  go_roundw
                  case rel => exact ⟨jj + 1, by omega, by go_num, below_drewN HBW.out _⟩
                  case measure => simp [intOf]; omega
                · have K9 : Hid (K3 w T2 X d mb fb2 m2 (.slice sa2 L2.length sc2) L2 da2 dn2 (k + 1) (sumO (os.take (k + 1)))) := K12.out.1.below HBW.out
                  go_wp2_with fail
                  go_roundw
                  case rel => exact ⟨k + 1, T2, fb2, m2, L2, da2, dc2, dn2, by omega, by go_num, rfl, K9.out⟩
                  case measure => simp [intOf]; omega
          · as_aux_lemma =>
              have hlt' : ¬ ((k : Int) < (n : Int)) := by omega
              obtain ⟨i9, hi9, hy0, hy1, hy2⟩ := info_parts infoJ
              have hkn9 := HK.out.2.1
              subst hkn9
              have hs1 := K.out.szs.1
              have hs2 := K.out.szs.2.1
              have hk1 : k ≤ 120 := by omega
              have HND : Hid (((m.dirAt dir).map (·.2)).Nodup) := K.out.hist.dirAt dir
              have HFN : Hid (Fn (m.fall dir ks) (m.image dir ks)) := fn_fall K.out.hist K.out.pd.sures dir ks
              have HI0 : Hid (IntsAt W ka ks) := HK.out.1.below K.out.go
              have hil : (m.image dir ks).length ≤ 100000 := by show (told _ _ _).length ≤ _; rw [told_length]; have := dirAt_len m dir; omega
              go_wp2_with (first | (at_builtin; refine wpList_cloneI _ (by rfl) (.const (.slice none 0 0)) (.tmp 201) 31 (by rfl) 3 i9 Try.underlying31 hi9 hy0 hy1 hy2 (by rfl) ka ks.length kc ks (by rfl) rfl HK.out.2.2.2 HI0.out (by omega) ?_; intro a1 c1 W1 hn1 hb1) | fail)
              have H1 : Hid (NInts W.heap.size W1 a1 c1 ks ∧ Below W.heap.size W W1) := ⟨hn1, hb1⟩
              clear hn1 hb1
              go_wp2_with fail
              refine (image_any (K.out.pd.below H1.out.2) dir a1 c1 ks H1.out.1.ints H1.out.1.le H1.out.1.max HK.out.2.2.1 (by omega) (by omega)).mono ?_
              rintro e W2 ⟨v2, ds2, rfl, hf2, hb2⟩
              obtain ⟨a2, c2, rfl⟩ := own_slice hf2.row
              have H2 : Hid (FilesAt W.heap.size W2 (.slice a2 (m.image dir ks).length c2) (m.image dir ks) ds2 ∧ Below W.heap.size W W2) := ⟨hf2.lower H1.out.2.size, H1.out.2.trans (hb2.mono H1.out.2.size)⟩
              have HI2 : Hid (IntsAt W2 ka ks) := HI0.out.below H2.out.2
              clear hf2 hb2 H1 HI0
              go_wp2_with (first | (at_builtin; refine wpList_cloneI _ (by rfl) (.const (.slice none 0 0)) (.tmp 206) 31 (by rfl) 3 i9 Try.underlying31 hi9 hy0 hy1 hy2 (by rfl) ka ks.length kc ks (by rfl) rfl HK.out.2.2.2 HI2.out (by omega) ?_; intro a3 c3 W3 hn3 hb3) | fail)
              have H3 : Hid (NInts W2.heap.size W3 a3 c3 ks ∧ Below W2.heap.size W2 W3 ∧ Below W.heap.size W W3) := ⟨hn3, hb3, H2.out.2.trans (hb3.mono H2.out.2.size)⟩
              clear hn3 hb3 HI2
              go_wp2_with fail
              refine (fall_any (K.out.pd.below H3.out.2.2) dir a3 c3 ks H3.out.1.ints (fun ad e => K.out.pd.fresh (Nat.le_trans H2.out.2.size (H3.out.1.base ad e))) H3.out.1.le H3.out.1.max HK.out.2.2.1 HND.out (by omega) (by omega)).mono ?_
              rintro e W4 ⟨rfl, hp4, hg4⟩
              have H4 : Hid (Pd T W4 d mb fb (m.fall dir ks) ∧ FilesAt W.heap.size W4 (.slice a2 (m.image dir ks).length c2) (m.image dir ks) ds2 ∧ Below w.heap.size w W4) := ⟨hp4, (H2.out.1.below H3.out.2.1).goes (fun b hb => K.out.pd.fresh hb) hg4, ((Goes.old (K.out.go.trans (H3.out.2.2.mono K.out.go.size)) K.out.low hg4)).1⟩
              clear hp4 hg4 H3 H2 HND K HK HO HTOT
              generalize m.fall dir ks = m9 at *
              generalize m.image dir ks = fs at *
              have hnow : m9.now.length ≤ 100000 := by rw [HFN.out.now]; exact hil
              have hdn : m9.down = false := HFN.out.down
              go_wp2_with fail
              refine (files_any H4.out.1).mono ?_
              rintro e W5 ⟨v5, ds5, rfl, hf5, hb5⟩
              rw [HFN.out.files] at hf5
              obtain ⟨a5, c5, rfl⟩ := own_slice hf5.row
              have H5 : Hid (Pd T W5 d mb fb m9 ∧ FilesAt W.heap.size W5 (.slice a2 fs.length c2) fs ds2 ∧ FilesAt W4.heap.size W5 (.slice a5 fs.length c5) fs ds5 ∧ Below w.heap.size w W5) := ⟨H4.out.1.below hb5, H4.out.2.1.below hb5, hf5, H4.out.2.2.trans (hb5.mono H4.out.2.2.size)⟩
              have HBG : Hid (∀ f ∈ fs, f.data.length ≤ 2147483648) := by have z := files_big H5.out.1; rw [HFN.out.files] at z; exact z
              clear hf5 hb5 H4
              go_wp2_with fail
              refine (sameFiles_true _ _ _ _ fs ds2 ds5 W5 H5.out.2.1 H5.out.2.2.1 (by omega) HBG.out).mono ?_
              rintro e W6 ⟨rfl, q6, hq6⟩
              have H6 : Hid (Pd T W6 d mb fb m9 ∧ FilesAt W4.heap.size W6 (.slice a5 fs.length c5) fs ds5 ∧ Below w.heap.size w W6) := by
                have hb : Below W5.heap.size W5 W6 := by rw [hq6]; exact below_drewN (Below.refl _ _) q6
                exact ⟨H5.out.1.below hb, H5.out.2.2.1.below hb, H5.out.2.2.2.trans (hb.mono H5.out.2.2.2.size)⟩
              clear hq6 H5
              go_wp2_with fail
              refine (down_any H6.out.1).mono ?_
              rintro e W7 ⟨rfl, hw7⟩
              have hw8 := hw7.symm
              clear hw7
              subst hw8
              rw [hdn]
              go_wp2_with fail
              go_loopw [21] (fun j wr => ∃ jj : Nat, jj ≤ fs.length ∧ j = .int .i64 (jj : Int) ∧ Hid (Below W6.heap.size W6 wr)) (fun j _ => fs.length - (intOf j).toNat)
              case atStart => exact ⟨0, Nat.zero_le _, rfl, Below.refl _ _⟩
              case round =>
                obtain ⟨jj, hjj, rfl, HBW⟩ := hrel
                rename World => X
                by_cases hj : jj < fs.length
                · have hj' : (jj : Int) < (fs.length : Int) := by omega
                  have HFX : Hid (FilesAt W4.heap.size X (.slice a5 fs.length c5) fs ds5) := H6.out.2.1.below HBW.out
                  obtain ⟨f, hf⟩ : ∃ f, fs[jj]? = some f := ⟨_, List.getElem?_eq_getElem hj⟩
                  obtain ⟨x, hx⟩ : ∃ x, ds5[jj]? = some x := ⟨_, List.getElem?_eq_getElem (by rw [HFX.out.len]; exact hj)⟩
                  obtain ⟨g5, cap5, e5, p1, p2, d0, d1, d2⟩ := HFX.out.cells hf hx
                  obtain ⟨rfl, _, rfl⟩ := Value.slice.inj e5
                  have hsf : f.sure = f.data.length := HFN.out.sure f (List.mem_of_getElem? hf)
                  rw [hsf] at d2
                  have HX2 : Hid (Below W6.heap.size W6 X.drew) := HBW.out.trans (((Below.refl _ _).drew).mono HBW.out.size)
                  clear hf hx e5 d0 hsf
                  go_wp2_with fail
                  go_quiet (fail)
                  go_wp2
                  go_roundw
                  case rel => exact ⟨jj + 1, by omega, by go_num, below_drewN HBW.out _⟩
                  case measure => simp [intOf]; omega
                · have hj' : ¬ ((jj : Int) < (fs.length : Int)) := by omega
                  have HX : Hid (Pd T X d mb fb m9 ∧ FilesAt W4.heap.size X (.slice a5 fs.length c5) fs ds5 ∧ Below w.heap.size w X) := ⟨H6.out.1.below HBW.out, H6.out.2.1.below HBW.out, H6.out.2.2.trans (HBW.out.mono H6.out.2.2.size)⟩
                  have hch0 : m9.ch.length = 0 := by rw [HFN.out.ch]; rfl
                  clear H6
                  go_wp2_with fail
                  refine (image_any HX.out.1 0 none 0 [] (no_ints X) (by simp) (by simp) (by simp) (by omega) (by omega)).mono ?_
                  rintro e X1 ⟨v9, ds9, rfl, hf9, hb9⟩
                  rw [HFN.out.image] at hf9
                  obtain ⟨a9, c9, rfl⟩ := own_slice hf9.row
                  have H9 : Hid (FilesAt X.heap.size X1 (.slice a9 fs.length c9) fs ds9 ∧ FilesAt W4.heap.size X1 (.slice a5 fs.length c5) fs ds5 ∧ Below w.heap.size w X1) := ⟨hf9, HX.out.2.1.below hb9, HX.out.2.2.trans (hb9.mono HX.out.2.2.size)⟩
                  clear hf9 hb9 HX
                  go_wp2_with fail
                  refine (sameFiles_true _ _ _ _ fs ds9 ds5 X1 H9.out.1 H9.out.2.1 (by omega) HBG.out).mono ?_
                  rintro e X2 ⟨rfl, q9, hq9⟩
                  have HE : Below w.heap.size w X2 := by rw [hq9]; exact below_drewN H9.out.2.2 q9
                  clear hq9
                  go_wp2_with fail
                  go_ret
                  exact ⟨rfl, HE⟩
end Dsk
end Go.Proofs.Ytbloifnibgdeoaa
