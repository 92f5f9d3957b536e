import Derived.Test.YtbloifnibgdeoaaRSml
namespace Go.Proofs.Ytbloifnibgdeoaa
namespace Dsk
open Go.RowKit Go.Shelf Go.Maps Go.Sort Byt Laws
set_option linter.unusedVariables false
set_option maxRecDepth 100000
set_option linter.unusedSimpArgs false

/-- append([]byte(nil), x...), as one step of a region. -/
theorem step_cloneB {P : Program} (w : World) {ops : Array Oper} {o : Oper} {a : Act} {K : Act → World → Prop} {Q : Exit → Act → World → Prop} {E : Prop} (hgd : o.guard = none) (s x : Operand) (t : TypeId)
    (ho : o.op = .call { callee := .builtin .append, args := #[s, x], argTypes := #[t, t] })
    (e : TypeId) (i : TypeInfo) (ht : P.underlying t = some (.slice e)) (hi : P.info? e = some i) (hz : i.zero = some (.int .u8 0)) (hsize : i.size = 1) (hby : i.bytes = 1)
    (hs : a.eval s = .slice none 0 0) (ao : Option Addr) (m c : Nat) (r : List Nat) (hx : a.eval x = .slice ao m c) (hm : m = r.length) (hn : ao = none → c = 0) (hr : IsB w ao r) (h47 : m ≤ 140737488355328)
    (h : ∀ a' c' w', New e w.heap.size w' a' c' r → Below w.heap.size w w' → K (a.put o.dst (.slice a' r.length c')) w') :
    if Region.wanted o (yielded ops a.tmps) = true then Oper.wp P o a w K Q else E := by
  have hw : Region.wanted o (yielded ops a.tmps) = true := by simp [Region.wanted, hgd]
  rw [if_pos hw]
  subst hm
  cases ao with
  | none =>
    have hr0 := hr.none
    subst hr0
    obtain rfl := hn rfl
    have hrun := run_append_owned_none (P := P) (w := w) w.heap.size t o.type e i 1 ht hi (.slice none 0 0) 0 [] (World.ownsRow_nil _ _ _ _)
    have hx' : a.eval x = .slice none 0 0 := hx
    unfold Oper.wp execOp
    simp only [ho, resolve, invoke, builtin, Sem.run_bind, Sem.run_pure, Result.andThen_ok, List.map_toArray, List.map_cons, List.map_nil, hs, hx', hrun]
    exact h none 0 w ⟨World.ownsRow_nil _ _ _ _, by simp⟩ (Below.refl _ _)
  | some ad =>
    obtain ⟨v', w', hrun, h2, h3, h4, h5⟩ := run_append_own_at (P := P) w w.heap.size t o.type e i (.int .u8 0) 1 1 ht hi hz hsize hby rfl (by omega) (.slice none 0 0) 0 [] (World.ownsRow_nil _ _ _ _) ad r.length c (cellsB r) (by rw [cellsB_length]; omega) (news_of hr ad rfl) (cellsB_one r) (by unfold maxLen; omega) (by omega) (Nat.le_refl _)
    rw [List.nil_append, Nat.zero_add] at h2
    obtain ⟨a', c', rfl, hnew⟩ := New.of h2 hr.2
    unfold Oper.wp execOp
    simp only [ho, resolve, invoke, builtin, Sem.run_bind, Sem.run_pure, Result.andThen_ok, List.map_toArray, List.map_cons, List.map_nil, hs, hx, hrun]
    exact h a' c' w' hnew (below_of (Below.refl _ _) h3 (Nat.le_refl _) (fun j hj => by cases hj))

def fjRow : List Fj → List (Option Addr × Nat) → List Value
  | f :: fs, x :: ds => .string f.name :: .slice x.1 f.data.length x.2 :: .int .i64 f.sure :: fjRow fs ds
  | _, _ => []
theorem fjRow_push (f : Fj) (x : Option Addr × Nat) : ∀ {fs : List Fj} {ds : List (Option Addr × Nat)}, ds.length = fs.length → fjRow (fs ++ [f]) (ds ++ [x]) = fjRow fs ds ++ [.string f.name, .slice x.1 f.data.length x.2, .int .i64 f.sure]
  | [], [], _ => rfl
  | a :: fs, b :: ds, h => by
    simp only [List.cons_append, fjRow]
    rw [fjRow_push f x (by simpa using h)]
  | [], _ :: _, h => by simp at h
  | _ :: _, [], h => by simp at h
/-- Files that were told: a list of its own, the bytes of each of its own. -/
structure FjOwn (base : Nat) (w : World) (v : Value) (fs : List Fj) (ds : List (Option Addr × Nat)) : Prop where
  len : ds.length = fs.length
  row : w.ownsRow base 67 3 v fs.length (fjRow fs ds)
  data : ∀ (i : Nat) (f : Fj) (x : Option Addr × Nat), fs[i]? = some f → ds[i]? = some x → New 5 base w x.1 x.2 f.data ∧ ∀ ad, x.1 = some ad → v.ownBlock ≠ some ad.block
theorem FjOwn.below {base : Nat} {w w' : World} {v : Value} {fs : List Fj} {ds : List (Option Addr × Nat)} (h : FjOwn base w v fs ds) (hb : Below w.heap.size w w') : FjOwn base w' v fs ds :=
  ⟨h.len, (Keep.below (bs := []) hb).own h.row (by simp), fun i f x hf hx => ⟨(h.data i f x hf hx).1.below hb, (h.data i f x hf hx).2⟩⟩
/-- One file more. -/
theorem FjOwn.push {base : Nat} {w w1 w2 w3 : World} {v : Value} {fs : List Fj} {ds : List (Option Addr × Nat)} (h : FjOwn base w v fs ds) (hb : Below w.heap.size w w1) (hB : base ≤ w.heap.size) {f : Fj} {a : Option Addr} {c : Nat} (hn : New 5 w.heap.size w1 a c f.data)
    (hk : Keep [] w1 w2) (hg : w2.grownBy w3 v.ownBlock) {g c' : Nat} (hown : w3.ownsRow base 67 3 (.slice (some ⟨g, 0, none⟩) (fs.length + 1) c') (fs.length + 1) (fjRow fs ds ++ [.string f.name, .slice a f.data.length c, .int .i64 f.sure])) (hat : v.ownBlock = some g ∨ w1.heap.size ≤ g) :
    FjOwn base w3 (.slice (some ⟨g, 0, none⟩) (fs.length + 1) c') (fs ++ [f]) (ds ++ [(a, c)]) := by
  have k13 : Keep v.ownBlock.toList w1 w3 := (hk.mono (by simp)).trans (Keep.grown hg)
  have hvlt : ∀ b, v.ownBlock = some b → b < w.heap.size := fun b hb' => (h.row.lt b hb').2
  have hs1 := hb.size
  refine ⟨by simp [h.len], ?_, ?_⟩
  · rw [List.length_append, fjRow_push f (a, c) h.len]; exact hown
  · intro i f' x hf hx
    by_cases hi : i < fs.length
    · rw [List.getElem?_append_left hi] at hf
      rw [List.getElem?_append_left (by rw [h.len]; exact hi)] at hx
      obtain ⟨d1, d2⟩ := h.data i f' x hf hx
      have d1' := d1.below hb
      refine ⟨⟨k13.own d1'.row (fun b hb' hm => ?_), d1'.byte⟩, fun ad e => ?_⟩
      · cases hx1 : x.1 with
        | none => rw [hx1] at hb'; cases hb'
        | some ad => rw [hx1] at hb'; cases hb'; exact d2 ad hx1 (by simpa using hm)
      · intro e2
        have e3 : g = ad.block := by simpa [Value.ownBlock] using e2
        rcases hat with hat | hat
        · exact d2 ad e (by rw [hat, e3])
        · have := (d1'.row.lt ad.block (by rw [e]; rfl)).2
          omega
    · have hi' : i = fs.length := by
        have := (List.getElem?_eq_some_iff.1 hf).1
        simp at this; omega
      subst hi'
      simp at hf
      have hx' : x = (a, c) := by
        have : (ds ++ [(a, c)])[ds.length]? = some x := by rw [h.len]; exact hx
        simp at this; exact this.symm
      subst hf; subst hx'
      refine ⟨⟨?_, hn.byte⟩, fun ad e => ?_⟩
      · have := k13.own hn.row (fun b hb' hm => by
          have h1 := (hn.row.lt b hb').1
          have h2 := hvlt b (by simpa using hm)
          omega)
        exact (New.lower ⟨this, hn.byte⟩ hB).row
      · intro e2
        have e3 : g = ad.block := by simpa [Value.ownBlock] using e2
        have h1 := hn.row.lt ad.block (by simp only at e; rw [e]; rfl)
        rcases hat with hat | hat
        · have := hvlt g hat; omega
        · omega


set_option maxHeartbeats 2000000 in
theorem ltwin_any (a : Option Addr) (n c : Nat) (fs : List Fj) (ds0 : List (Option Addr × Nat)) (w : World) (h : FjAt w a fs ds0) (hn : n = fs.length) (hc : n ≤ c) (hc2 : c ≤ 9223372036854775807) (hl : ∀ f ∈ fs, f.data.length ≤ 140737488355328) (hl2 : n ≤ 2932031007402) :
    Calls Try.prog 38 #[.slice a n c] w fun e w' => ∃ v ds, e = .returned v ∧ FjOwn w.heap.size w' v fs ds ∧ Below w.heap.size w w' := by
  obtain ⟨i3, hi3, hz0, hz1, hz2⟩ := info_parts infoF
  obtain ⟨i8, hi8, hy0, hy1, hy2⟩ := info_parts infoB
  have HF : Hid (FjAt w a fs ds0) := h
  have HN : Hid (n = fs.length) := hn
  have HL : Hid (∀ f ∈ fs, f.data.length ≤ 140737488355328) := hl
  clear h hn hl
  go_enter Try.func38, Try.ntmps38
  go_wp2
  go_loopw [3, 4] (fun told i wr => ∃ (k : Nat) (ds : List (Option Addr × Nat)), i = .int .i64 k ∧ k ≤ n ∧ Hid (FjOwn w.heap.size wr told (fs.take k) ds) ∧ Hid (Below w.heap.size w wr)) (fun _ i _ => n - (intOf i).toNat)
  case atStart => exact ⟨0, [], rfl, Nat.zero_le _, ⟨rfl, World.ownsRow_nil _ _ _ _, by simp⟩, Below.refl _ _⟩
  case round =>
    rename World => W
    obtain ⟨k, ds, rfl, hk, HFA, HBW⟩ := hrel
    by_cases hlt : k < n
    · have hlt' : (k : Int) < (n : Int) := by omega
      have hks : k < fs.length := by have := HN.out; omega
      obtain ⟨f, hf⟩ : ∃ f, fs[k]? = some f := ⟨_, List.getElem?_eq_getElem hks⟩
      obtain ⟨x, hx⟩ : ∃ x, ds0[k]? = some x := ⟨_, List.getElem?_eq_getElem (by rw [HF.out.len]; exact hks)⟩
      obtain ⟨⟨b, off, rfl, c0, c1, c2⟩, hib, hnil, hle, hcx, hnm, hs1, hs2⟩ := (HF.out.below HBW.out).at_ k f x hf hx
      have hob := HL.out f (List.mem_of_getElem? hf)
      have hbl : b < W.heap.size := World.block_lt_of_cell? W _ c0
      have HIB : Hid (IsB W x.1 f.data ∧ (x.1 = none → x.2 = 0)) := ⟨hib, hnil⟩
      have HTK : Hid ((fs.take k).length = k) := by
        show _ = _
        rw [List.length_take]; omega
      have HNX : Hid (fs.take (k + 1) = fs.take k ++ [f]) := by
        show _ = _
        rw [List.take_add_one, hf]; rfl
      have hWs := HBW.out.size
      obtain ⟨au, cu, hu⟩ := own_slice HFA.out.row
      rw [HTK.out] at hu
      subst hu
      have HO : Hid (W.ownsRow w.heap.size 67 3 (.slice au k cu) k (fjRow (fs.take k) ds)) := by
        have z := HFA.out.row
        rw [HTK.out] at z
        exact z
      clear hib hnil hf hx hnm hs1 hs2
      go_wp2
      go_region_law (first
        | (refine step_app _ (by rfl) (.tmp 11) (.tmp 29) 22 (by rfl) w.heap.size 67 i3 _ 3 48 Try.underlying22 hi3 hz0 hz1 hz2 rfl (by omega) (.slice au k cu) k (fjRow (fs.take k) ds) (by rfl) (HC.out.2.2.alloc _) ⟨W1.heap.size, 0, none⟩ 1 1 [.string f.name, .slice a1 f.data.length c1', .int .i64 f.sure] (by rfl) (by rfl) (World.news_of_block (heap_alloc_new W1 _)) (by intro u hu; simp at hu; rcases hu with rfl | rfl | rfl <;> rfl) (by intro _; omega) (by unfold maxLen; omega) (by omega) (Nat.le_trans (Nat.le_trans hWs HC.out.2.1.size) (Keep.alloc [] _ _).size) (W1.heap.size + 1) (by simp) ?_; intro g7 c7 w7 hown7 hgr7 hat7 hlt7; have HR : Hid (FjOwn w.heap.size w7 (.slice (some ⟨g7, 0, none⟩) (k + 1) c7) (fs.take k ++ [f]) (ds ++ [(a1, c1')]) ∧ Keep (Value.slice au k cu).ownBlock.toList W w7) := ⟨(by have z := HFA.out.push HC.out.2.1 hWs (f := f) HC.out.1 (Keep.alloc [] _ _) hgr7 (c' := c7) (by rw [HTK.out]; exact hown7) (hat7.imp id (by intro e; omega)); rw [HTK.out] at z; exact z), (Keep.below HC.out.2.1).trans ((Keep.alloc _ _ _).trans (Keep.grown hgr7))⟩; clear hown7 hgr7 hat7 hlt7)
        | (refine step_cloneB _ (by rfl) (.const (.slice none 0 0)) (.tmp 21) 30 (by rfl) 5 i8 Try.underlying30 hi8 hy0 hy1 hy2 (by rfl) x.1 f.data.length x.2 f.data (by rfl) rfl HIB.out.2 HIB.out.1 hob ?_; intro a1 c1' W1 hn1 hb1; have hb1' : Below W.heap.size W W1 := ((Below.refl W.heap.size W).drew).trans hb1; have HC : Hid (New 5 W.heap.size W1 a1 c1' f.data ∧ Below W.heap.size W W1 ∧ W1.ownsRow w.heap.size 67 3 (.slice au k cu) k (fjRow (fs.take k) ds)) := ⟨hn1, hb1', (Keep.below (bs := []) hb1').own HO.out (by simp)⟩; have d0 : W1.cell? ⟨b, off + k * 3, none⟩ = some (.string f.name) := (hb1'.cell (p := ⟨b, off + k * 3, none⟩) hbl).trans c0; have d2 : W1.cell? ⟨b, off + k * 3 + 2, none⟩ = some (.int .i64 f.sure) := (hb1'.cell (p := ⟨b, off + k * 3 + 2, none⟩) hbl).trans c2; clear hn1 hb1 hb1'))
      all_goals
        go_wp2
        go_roundw
        case rel =>
          refine ⟨k + 1, ds ++ [(a1, c1')], by go_num, hlt, ?_, ?_⟩
          · show FjOwn _ _ _ _ _
            rw [HNX.out]; exact HR.out.1
          · refine HBW.out.trans ⟨HR.out.2.os, HR.out.2.tape, HR.out.2.output, HR.out.2.size, fun b hb => HR.out.2.block b (by omega) (fun hm => ?_)⟩
            have := (HO.out.lt b (by simpa using hm)).1
            omega
        case measure => simp [intOf]; omega
    · have hk' : k = n := by omega
      subst hk'
      go_wp2
      go_ret
      refine ⟨_, ds, rfl, ?_, HBW.out⟩
      have e : fs.take k = fs := List.take_of_length_le (by rw [← HN.out]; exact Nat.le_refl _)
      have := HFA.out
      rw [e] at this
      exact this
end Dsk
end Go.Proofs.Ytbloifnibgdeoaa
