import Derived.Test.YtbloifnibgdeoaaProg
import Derived.Test.YtbloifnibgdeoaaDNms
import Derived.WalkKit
import Derived.WalkSpells
import Derived.WalkLawsBesides
import Derived.Deep.RegionLaw
import Derived.Deep.DrawnRows
namespace Go.Proofs.Ytbloifnibgdeoaa
namespace Dsk
open Go.RowKit Go.Maps Go.Sort Byt Laws
set_option linter.unusedVariables false
set_option maxRecDepth 100000
attribute [local go_sem ↓] Go.wp_at_zero Go.wp_at_succ

/-- A file that is told. -/
structure Fi where
  name : ByteArray
  data : List Nat
  sure : Nat
def fiRow : List Fi → List (Option Addr × Nat) → List Value
  | f :: fs, x :: ds => .string f.name :: .slice x.1 f.data.length x.2 :: .int .i64 f.sure :: fiRow fs ds
  | _, _ => []
theorem fiRow_push (f : Fi) (x : Option Addr × Nat) : ∀ {fs : List Fi} {ds : List (Option Addr × Nat)}, ds.length = fs.length → fiRow (fs ++ [f]) (ds ++ [x]) = fiRow fs ds ++ [.string f.name, .slice x.1 f.data.length x.2, .int .i64 f.sure]
  | [], [], _ => rfl
  | a :: fs, b :: ds, h => by
    simp only [List.cons_append, fiRow]
    rw [fiRow_push f x (by simpa using h)]
  | [], _ :: _, h => by simp at h
  | _ :: _, [], h => by simp at h
/-- Files that were told: a list of its own, the bytes of each of its own. -/
structure FilesAt (base : Nat) (w : World) (v : Value) (fs : List Fi) (ds : List (Option Addr × Nat)) : Prop where
  len : ds.length = fs.length
  row : w.ownsRow base 67 3 v fs.length (fiRow fs ds)
  data : ∀ (i : Nat) (f : Fi) (x : Option Addr × Nat), fs[i]? = some f → ds[i]? = some x → New 5 base w x.1 x.2 f.data ∧ ∀ ad, x.1 = some ad → v.ownBlock ≠ some ad.block
theorem FilesAt.below {base : Nat} {w w' : World} {v : Value} {fs : List Fi} {ds : List (Option Addr × Nat)} (h : FilesAt base w v fs ds) (hb : Below w.heap.size w w') : FilesAt base w' v fs ds :=
  ⟨h.len, (Keep.below (bs := []) hb).own h.row (by simp), fun i f x hf hx => ⟨(h.data i f x hf hx).1.below hb, (h.data i f x hf hx).2⟩⟩
/-- One file more. -/
theorem FilesAt.push {base : Nat} {w w1 w2 w3 : World} {v : Value} {fs : List Fi} {ds : List (Option Addr × Nat)} (h : FilesAt base w v fs ds) (hb : Below w.heap.size w w1) (hB : base ≤ w.heap.size) {f : Fi} {a : Option Addr} {c : Nat} (hn : New 5 w.heap.size w1 a c f.data)
    (hk : Keep [] w1 w2) (hg : w2.grownBy w3 v.ownBlock) {g c' : Nat} (hown : w3.ownsRow base 67 3 (.slice (some ⟨g, 0, none⟩) (fs.length + 1) c') (fs.length + 1) (fiRow fs ds ++ [.string f.name, .slice a f.data.length c, .int .i64 f.sure])) (hat : v.ownBlock = some g ∨ w1.heap.size ≤ g) :
    FilesAt base w3 (.slice (some ⟨g, 0, none⟩) (fs.length + 1) c') (fs ++ [f]) (ds ++ [(a, c)]) := by
  have k13 : Keep v.ownBlock.toList w1 w3 := (hk.mono (by simp)).trans (Keep.grown hg)
  have hvlt : ∀ b, v.ownBlock = some b → b < w.heap.size := fun b hb' => (h.row.lt b hb').2
  have hs1 := hb.size
  refine ⟨by simp [h.len], ?_, ?_⟩
  · rw [List.length_append, fiRow_push f (a, c) h.len]; exact hown
  · intro i f' x hf hx
    by_cases hi : i < fs.length
    · rw [List.getElem?_append_left hi] at hf
      rw [List.getElem?_append_left (by rw [h.len]; exact hi)] at hx
      obtain ⟨d1, d2⟩ := h.data i f' x hf hx
      have d1' := d1.below hb
      refine ⟨⟨k13.own d1'.row (fun b hb' hm => ?_), d1'.byte⟩, fun ad e => ?_⟩
      · cases hx1 : x.1 with
        | none => rw [hx1] at hb'; cases hb'
        | some ad => rw [hx1] at hb'; cases hb'; exact d2 ad hx1 (by simpa using hm)
      · intro e2
        have e3 : g = ad.block := by simpa [Value.ownBlock] using e2
        rcases hat with hat | hat
        · exact d2 ad e (by rw [hat, e3])
        · have := (d1'.row.lt ad.block (by rw [e]; rfl)).2
          omega
    · have hi' : i = fs.length := by
        have := (List.getElem?_eq_some_iff.1 hf).1
        simp at this; omega
      subst hi'
      simp at hf
      have hx' : x = (a, c) := by
        have : (ds ++ [(a, c)])[ds.length]? = some x := by rw [h.len]; exact hx
        simp at this; exact this.symm
      subst hf; subst hx'
      refine ⟨⟨?_, hn.byte⟩, fun ad e => ?_⟩
      · have := k13.own hn.row (fun b hb' hm => by
          have h1 := (hn.row.lt b hb').1
          have h2 := hvlt b (by simpa using hm)
          omega)
        exact (New.lower ⟨this, hn.byte⟩ hB).row
      · intro e2
        have e3 : g = ad.block := by simpa [Value.ownBlock] using e2
        have h1 := hn.row.lt ad.block (by simp only at e; rw [e]; rfl)
        rcases hat with hat | hat
        · have := hvlt g hat; omega
        · omega

def dataOf (fl : List Fl) (i : Nat) : List Nat := (fl[i]?.map (·.data)).getD []
def sureOf (fl : List Fl) (i : Nat) : Nat := (fl[i]?.map (·.sure)).getD 0
/-- P3.6. -/
def Dm.files (m : Dm) : List Fi := m.now.map fun p => ⟨ba p.1, dataOf m.fl p.2, sureOf m.fl p.2⟩

theorem infoF : (Try.prog.info? 67).map (fun i => (i.zero, i.size, i.bytes)) = some (some (.agg #[.string ByteArray.empty, .slice none 0 0, .int .i64 0]), 3, 48) := by kernel_rfl
set_option maxHeartbeats 2000000 in
theorem files_any {T : Nat → Nat} {w : World} {d mb : Nat} {fb : Nat → Nat} {m : Dm} (h : Pd T w d mb fb m) :
    Calls Try.prog 13 #[.pointer (some ⟨d, 0, none⟩)] w fun e w' => ∃ v ds, e = .returned v ∧ FilesAt w.heap.size w' v m.files ds ∧ Below w.heap.size w w' := by
  obtain ⟨cv, D, h⟩ := h
  obtain ⟨i3, hi3, hz0, hz1, hz2⟩ := info_parts infoF
  have HH : Hid (Pdi T w d mb fb m cv D) := h
  have c6 := (h.top.1.2 6 (by omega)).1
  simp only [Top.cell] at c6
  have hmost := h.most
  obtain ⟨L, hL⟩ : ∃ L : Nat, m.now.length = L := ⟨_, rfl⟩
  have HL : Hid (m.now.length = L) := hL
  rw [hL] at hmost
  clear h hL
  go_enter Try.func13, Try.ntmps13
  go_wp2_with (first | (at_len; refine wpList_lenD HH.out (by rfl) (.tmp 10) (by rfl) (by rfl) ?_; rw [HL.out]) | (at_make; refine wpList_make_own _ rfl _ _ 22 rfl w.heap.size 67 i3 _ 3 Try.underlying22 hi3 hz0 hz1 _ _ _ L rfl rfl (by omega) (by rw [hz2]; omega) (by unfold maxLen; omega) (Nat.le_refl _) ?_; intro w1 hown1 hgr1; have HB1 : Hid (Below w.heap.size w w1) := below_of (Below.refl _ _) hgr1 (Nat.le_refl _) (by simp); have HO1 : Hid (w1.ownsRow w.heap.size 67 3 (.slice (some ⟨w.heap.size, 0, none⟩) 0 L) 0 []) := hown1; have H1 : Hid (Pdi T w1 d mb fb m cv D) := HH.out.below HB1.out; have c61 := (H1.out.top.1.2 6 (by omega)).1; simp only [Top.cell] at c61; clear hgr1 hown1 c6) | (go_at_call 49; refine (names_dir H1.out.map H1.out.dir (by rw [HL.out]; omega)).mono ?_; rintro e w2 ⟨v2, rfl, ho2, hb2⟩; rw [HL.out] at ho2; obtain ⟨a2, c2, rfl⟩ := own_slice ho2; have HO2 : Hid (w2.ownsRow w1.heap.size 9 1 (.slice a2 L c2) L ((m.now.map (·.1)).map encStr) ∧ Below w1.heap.size w1 w2) := ⟨ho2, hb2⟩; clear ho2 hb2 c61))
  go_loopw [3, 5, 6, 19, 20, 21, 22, 23, 24, 25, 26, 27, 28, 29, 30, 31, 32, 33, 34, 35, 36, 37, 38, 39, 40, 41, 42, 43] (fun told _ _ i _ _ _ _ _ _ _ _ _ _ _ _ _ _ _ _ _ _ _ _ _ _ _ _ wr => ∃ (k : Nat) (ds : List (Option Addr × Nat)), i = .int .i64 k ∧ k ≤ L ∧ FilesAt w.heap.size wr told (m.files.take k) ds ∧ Below w.heap.size w wr ∧ wr.ownsRow w1.heap.size 9 1 (.slice a2 L c2) L ((m.now.map (·.1)).map encStr) ∧ ∀ b, told.ownBlock = some b → (Value.slice a2 L c2).ownBlock ≠ some b) (fun _ _ _ i _ _ _ _ _ _ _ _ _ _ _ _ _ _ _ _ _ _ _ _ _ _ _ _ _ => L - (intOf i).toNat)
  case atStart =>
    have hs1 := HB1.out.size
    refine ⟨0, [], rfl, Nat.zero_le _, ⟨rfl, (Keep.below (bs := []) HO2.out.2).own HO1.out (by simp), by simp⟩, HB1.out.trans (HO2.out.2.mono hs1), HO2.out.1, ?_⟩
    intro b hb e
    cases hb
    have h1 : w1.heap.size ≤ w.heap.size := (HO2.out.1.lt _ e).1
    have h2 : w.heap.size < w1.heap.size := (HO1.out.lt _ rfl).2
    omega
  case round =>
    rename World => W
    obtain ⟨k, ds, rfl, hk, hfa, hbw, hnm, hsep⟩ := hrel
    by_cases hlt : k < L
    · have hlt' : (k : Int) < (L : Int) := by omega
      obtain ⟨p, hp⟩ : ∃ p, m.now[k]? = some p := ⟨_, List.getElem?_eq_getElem (by rw [HL.out]; exact hlt)⟩
      obtain ⟨g, c, e, hc1, hc2, hg1, hg2, hcell⟩ := names_cell hnm hp
      obtain ⟨rfl, _, rfl⟩ := Value.slice.inj e
      have hpd := HH.out.below hbw
      have hpm : p ∈ m.now := List.mem_of_getElem? hp
      have hlk : look m.now (ky (ba p.1)) = some p.2 := by rw [ky_ba]; exact look_mem hpd.dir.rises hpm
      obtain ⟨f, hf⟩ : ∃ f, m.fl[p.2]? = some f := ⟨_, List.getElem?_eq_getElem (hpd.ids p hpm)⟩
      obtain ⟨a, cc, hfi⟩ := hpd.file p.2 f hf
      have c6 := (hpd.top.1.2 6 (by omega)).1
      have cf0 := (hfi.fld.2 0 (by omega)).1
      have cf1 := (hfi.fld.2 1 (by omega)).1
      simp only [Top.cell, fcell, if_true, Nat.one_ne_zero, if_false] at c6 cf0 cf1
      have hsz : (ba p.1).size ≤ maxLen := by rw [ba_size]; exact names_len hpd.map hpd.dir p hpm
      have HSZ : Hid ((ba p.1).size ≤ maxLen) := hsz
      have HPD : Hid (Pdi T W d mb fb m cv D) := hpd
      have HFI : Hid (FileAt T W (fb p.2) p.2 f a cc) := hfi
      have HFA : Hid (FilesAt w.heap.size W u3 (m.files.take k) ds) := hfa
      have HTK : Hid ((m.files.take k).length = k) := by
        show _ = _
        rw [List.length_take]; simp [Dm.files]; rw [HL.out]; omega
      have HNX : Hid (m.files.take (k + 1) = m.files.take k ++ [⟨ba p.1, f.data, f.sure⟩]) := by
        show _ = _
        rw [List.take_add_one]
        congr 1
        simp [Dm.files, hp, dataOf, sureOf, hf]
      have HBW : Hid (Below w.heap.size w W) := hbw
      have HNM : Hid (W.ownsRow w1.heap.size 9 1 (.slice (some ⟨g, 0, none⟩) L c2) L ((m.now.map (·.1)).map encStr)) := hnm
      have HSEP : Hid (∀ b, u3.ownBlock = some b → (Value.slice (some ⟨g, 0, none⟩) L c2).ownBlock ≠ some b) := hsep
      have HLK : Hid (look m.now (ky (ba p.1)) = some p.2) := hlk
      have hbig := hfi.big
      generalize ba p.1 = nm at *
      clear hfa hbw hnm hsep hpd hpm hlk hf hfi hsz e hp hg1 hg2
      go_wp2_with (at_lookup; refine wpList_look HPD.out nm HSZ.out (by rfl) (.tmp 26) (.tmp 27) (by rfl) (by rfl) (by rfl) ?_; rw [HLK.out]; simp only [pv])
      have hlen : (m.files.take k).length ≤ 1073741824 := by rw [HTK.out]; omega
      have hWs := HBW.out.size
      go_region_law (first
        | (refine step_app _ (by rfl) (.tmp 29) (.tmp 41) 22 (by rfl) w.heap.size 67 i3 _ 3 48 Try.underlying22 hi3 hz0 hz1 hz2 rfl (by omega) u3 k (fiRow (m.files.take k) ds) (by rfl) (HC.out.2.2.alloc _) ⟨W1.heap.size, 0, none⟩ 1 1 [.string nm, .slice a1 f.data.length c1, .int .i64 f.sure] (by rfl) (by rfl) (World.news_of_block (heap_alloc_new W1 _)) (by intro u hu; simp at hu; rcases hu with rfl | rfl | rfl <;> rfl) (by intro _; omega) (by unfold maxLen; omega) (by omega) (Nat.le_trans (Nat.le_trans hWs HC.out.2.1.size) (Keep.alloc [] _ _).size) (W1.heap.size + 1) (by simp) ?_; intro g7 c7 w7 hown7 hgr7 hat7 hlt7; have HR : Hid (FilesAt w.heap.size w7 (.slice (some ⟨g7, 0, none⟩) (k + 1) c7) (m.files.take k ++ [⟨nm, f.data, f.sure⟩]) (ds ++ [(a1, c1)]) ∧ Keep u3.ownBlock.toList W w7 ∧ (u3.ownBlock = some g7 ∨ W1.heap.size ≤ g7)) := ⟨(by have z := HFA.out.push HC.out.2.1 hWs (f := ⟨nm, f.data, f.sure⟩) HC.out.1 (Keep.alloc [] _ _) hgr7 (c' := c7) (by rw [HTK.out]; exact hown7) (hat7.imp id (by intro e; omega)); rw [HTK.out] at z; exact z), (Keep.below HC.out.2.1).trans ((Keep.alloc _ _ _).trans (Keep.grown hgr7)), hat7.imp id (by intro e; omega)⟩; clear hown7 hgr7 hat7 hlt7)
        | (go_simp; go_at_call 50; refine (clone_any a f.data.length cc f.data W.drew HFI.out.own.isB HFI.out.own.cap rfl (by omega)).mono ?_; rintro e W1 ⟨a1, c1, rfl, hn1, hb1⟩; have hb1' : Below W.heap.size W W1 := ((Below.refl W.heap.size W).drew).trans hb1; have HC : Hid (New 5 W.heap.size W1 a1 c1 f.data ∧ Below W.heap.size W W1 ∧ W1.ownsRow w.heap.size 67 3 u3 k (fiRow (m.files.take k) ds)) := ⟨hn1, hb1', (by have z := (Keep.below (bs := []) hb1').own HFA.out.row (by simp); rw [HTK.out] at z; exact z)⟩; have cf1' : W1.cell? ⟨fb p.2, 1, none⟩ = some (.int .i64 f.sure) := (by rw [World.cell?_of_block (hb1'.block (fb p.2) HFI.out.fld.1)]; exact cf1); clear hn1 hb1 hb1'))
      all_goals
        go_wp2
        go_roundw
        case rel =>
          refine ⟨k + 1, ds ++ [(a1, c1)], by go_num, hlt, ?_, ?_, ?_, ?_⟩
          · rw [HNX.out]; exact HR.out.1
          · refine HBW.out.trans ⟨HR.out.2.1.os, HR.out.2.1.tape, HR.out.2.1.output, HR.out.2.1.size, fun b hb => HR.out.2.1.block b (by omega) (fun hm => ?_)⟩
            have := (HFA.out.row.lt b (by simpa using hm)).1
            omega
          · exact HR.out.2.1.own HNM.out (fun x hx hm => HSEP.out x (by simpa using hm) hx)
          · intro b hb e
            have hb' : g7 = b := by simpa [Value.ownBlock] using hb
            subst hb'
            have hx := (HNM.out.lt _ e).2
            rcases HR.out.2.2 with h1 | h1
            · exact HSEP.out _ h1 e
            · have := HC.out.2.1.size; omega
        case measure => simp [intOf]; omega
    · have hk' : k = L := by omega
      subst hk'
      go_wp2
      go_ret
      refine ⟨_, ds, rfl, ?_, hbw⟩
      have e : m.files.take k = m.files := List.take_of_length_le (by simp [Dm.files]; rw [HL.out]; exact Nat.le_refl _)
      rw [e] at hfa
      exact hfa
end Dsk
end Go.Proofs.Ytbloifnibgdeoaa
