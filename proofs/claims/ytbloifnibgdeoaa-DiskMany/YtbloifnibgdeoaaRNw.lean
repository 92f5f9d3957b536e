import Derived.Test.YtbloifnibgdeoaaRInv
namespace Go.Proofs.Ytbloifnibgdeoaa
namespace Dsk
open Go.RowKit Go.Shelf Go.Maps Go.Sort Byt Laws
set_option linter.unusedVariables false
set_option maxRecDepth 100000
set_option linter.unusedSimpArgs false

/-- A file more is the disk's; it has no name yet. -/
theorem Rd.born {T : Nat → Nat} {w w1 w2 : World} {d : Nat} {fb : Nat → Nat} {m : Rm} {vf vn vs vc : Value} (h : Rd T w d fb m vf vn vs vc) {f : Fl} {a1 : Option Addr} {c1 g c2 : Nat}
    (hb : Below w.heap.size w w1) (hnew : New 5 w.heap.size w1 a1 c1 f.data) (hsu : f.sure ≤ f.data.length) (hbig : f.data.length ≤ 2147483648) (hl : m.fl.length < 100000000)
    (hown : w2.ownsRow 0 96 1 (.slice (some ⟨g, 0, none⟩) (m.fl.length + 1) c2) (m.fl.length + 1) (ptrRow fb m.fl.length ++ [.pointer (some ⟨w1.heap.size, 0, none⟩)]))
    (hg : ((w1.alloc (.cells #[.slice a1 f.data.length c1, .int .i64 f.sure] 100)).alloc (.cells #[.pointer (some ⟨w1.heap.size, 0, none⟩)] 96)).grownBy w2 vf.ownBlock) (hat : vf.ownBlock = some g ∨ w1.heap.size + 1 < g) :
    ∃ T', Rd T' (w2.setCell ⟨d, 1, none⟩ (.slice (some ⟨g, 0, none⟩) (m.fl.length + 1) c2)) d (upd fb m.fl.length w1.heap.size) { m with fl := m.fl ++ [f] } (.slice (some ⟨g, 0, none⟩) (m.fl.length + 1) c2) vn vs vc ∧ Keep (d :: vf.ownBlock.toList) w (w2.setCell ⟨d, 1, none⟩ (.slice (some ⟨g, 0, none⟩) (m.fl.length + 1) c2)) ∧ (∀ b, b < w.heap.size → T' b = T b) := by
  have htd := h.td
  have hdlt : d < w.heap.size := h.top.1
  have hs1 := hb.size
  have k0 : Keep vf.ownBlock.toList w ((w1.alloc (.cells #[.slice a1 f.data.length c1, .int .i64 f.sure] 100)).alloc (.cells #[.pointer (some ⟨w1.heap.size, 0, none⟩)] 96)) := ((Keep.below hb).trans (Keep.alloc _ _ _)).trans (Keep.alloc _ _ _)
  have k1 : Keep vf.ownBlock.toList ((w1.alloc (.cells #[.slice a1 f.data.length c1, .int .i64 f.sure] 100)).alloc (.cells #[.pointer (some ⟨w1.heap.size, 0, none⟩)] 96)) w2 := Keep.grown hg
  have kk : Keep vf.ownBlock.toList w w2 := k0.trans k1
  have hs2 : w1.heap.size + 1 < w2.heap.size := Nat.lt_of_lt_of_le (by simp) k1.size
  have hglt : g < w2.heap.size := (hown.lt g rfl).2
  have hvf : ∀ b, vf.ownBlock = some b → b < w.heap.size ∧ T b = 2 := fun b e => ⟨(h.fls.lt b e).2, h.tf b e⟩
  have hdat : ∀ b, (Value.slice a1 f.data.length c1).ownBlock = some b → w.heap.size ≤ b ∧ b < w1.heap.size := fun b hb' => hnew.row.lt b hb'
  have hgn : ∀ b, b < w1.heap.size + 2 → b = g → T b = 2 ∧ b < w.heap.size := fun b hlt e => by
    subst e
    rcases hat with e | e
    · exact ⟨(hvf b e).2, (hvf b e).1⟩
    · omega
  obtain ⟨T', hT⟩ : ∃ T' : Nat → Nat, T' = fun x => if x = w1.heap.size then 10 + 2 * m.fl.length else if (Value.slice a1 f.data.length c1).ownBlock = some x then 11 + 2 * m.fl.length else if x = g then 2 else T x := ⟨_, rfl⟩
  have ht : ∀ x, x < w.heap.size → T' x = T x := fun x hx => by
    rw [hT]
    simp only
    rw [if_neg (by omega), if_neg (fun e => by have := (hdat x e).1; omega)]
    by_cases e : x = g
    · rw [if_pos e, (hgn x (by omega) e).1]
    · rw [if_neg e]
  have hgT : T' g = 2 := by
    rw [hT]
    simp only
    rw [if_neg (fun e => by have := (hgn g (by omega) rfl).2; omega), if_neg (fun e => by
      have h1 := hdat g e
      have := (hgn g (by omega) rfl).2
      omega)]
    simp
  have hnewT : T' w1.heap.size = 10 + 2 * m.fl.length := by rw [hT]; simp
  have hdatT : ∀ b, (Value.slice a1 f.data.length c1).ownBlock = some b → T' b = 11 + 2 * m.fl.length := fun b hb' => by
    rw [hT]; simp only
    rw [if_neg (by have := (hdat b hb').2; omega), if_pos hb']
  have hfb : ∀ i, i < m.fl.length → upd fb m.fl.length w1.heap.size i = fb i := fun i hi => upd_other _ _ (by omega)
  have kd : Keep [d] w2 (w2.setCell ⟨d, 1, none⟩ (.slice (some ⟨g, 0, none⟩) (m.fl.length + 1) c2)) := Keep.set _ _ _ _
  have ka : Keep (d :: vf.ownBlock.toList) w (w2.setCell ⟨d, 1, none⟩ (.slice (some ⟨g, 0, none⟩) (m.fl.length + 1) c2)) := (kk.mono (fun b hb => by simp at hb ⊢; exact .inr hb)).trans (kd.mono (fun b hb => by simp at hb; simp [hb]))
  have hin : ∀ x ∈ (d :: vf.ownBlock.toList), T x = 1 ∨ T x = 2 := by
    intro x hx
    simp only [List.mem_cons, Option.mem_toList] at hx
    rcases hx with rfl | hx
    · exact .inl htd
    · exact .inr (hvf x hx).2
  have hin' : ∀ x ∈ (d :: vf.ownBlock.toList), T' x = 1 ∨ T' x = 2 := fun x hx => by
    have hlt : x < w.heap.size := by
      simp only [List.mem_cons, Option.mem_toList] at hx
      rcases hx with rfl | hx
      · exact hdlt
      · exact (hvf x hx).1
    rw [ht x hlt]
    exact hin x hx
  have hx : ∀ {v : Value} {t : Nat}, 2 < t → (∀ b, v.ownBlock = some b → T b = t) → ∀ b, v.ownBlock = some b → b ∉ (d :: vf.ownBlock.toList) := fun ht hv b hb hm => by
    have h1 := hv b hb
    rcases hin b hm with h2 | h2 <;> omega
  have hdn : d ∉ vf.ownBlock.toList := fun hm => by
    have := (hvf d (by simpa using hm)).2
    omega
  have tg : ∀ {v : Value} {t : Nat}, (∀ b, v.ownBlock = some b → b < w.heap.size) → (∀ b, v.ownBlock = some b → T b = t) → ∀ b, v.ownBlock = some b → T' b = t := fun hlt hv b hb => by rw [ht b (hlt b hb)]; exact hv b hb
  refine ⟨T', ⟨?_, by rw [ht _ hdlt]; exact htd, fun b hb' => ?_, ?_, fun b e => ?_, ka.own h.dir (hx (by omega) h.tn), tg (fun b e => (h.dir.lt b e).2) h.tn, ka.own h.sur (hx (by omega) h.ts), tg (fun b e => (h.sur.lt b e).2) h.ts, ka.own h.chg (hx (by omega) h.tc), tg (fun b e => (h.chg.lt b e).2) h.tc, ?_, h.rises, h.risesS, fun p hp => ?_, fun p hp => ?_, h.room, h.most, h.mostS, ?_, h.rok⟩, ka, ht⟩
  · refine ((h.top.keep kk hdn).set 1 (by omega) _).eq (fun j hj => ?_)
    match j, hj with
    | 0, _ => rfl
    | 1, _ => rfl
    | 2, _ => rfl
    | 3, _ => rfl
    | 4, _ => rfl
    | 5, _ => rfl
    | 6, _ => rfl
    | 7, _ => rfl
    | 8, _ => rfl
    | 9, _ => rfl
  · have hb2 : w2.heap.size ≤ b := by simpa using hb'
    rw [hT]; simp only
    rw [if_neg (by omega), if_neg (fun e => by have := (hdat b e).2; omega), if_neg (by omega)]
    exact h.fresh b (by omega)
  · have e : ptrRow (upd fb m.fl.length w1.heap.size) (m.fl ++ [f]).length = ptrRow fb m.fl.length ++ [.pointer (some ⟨w1.heap.size, 0, none⟩)] := by
      rw [List.length_append, List.length_singleton, ptrRow_snoc, upd_same]
      congr 1
      unfold ptrRow
      refine List.map_congr_left (fun i hi => ?_)
      rw [hfb i (by simpa using hi)]
    have hl2 : (m.fl ++ [f]).length = m.fl.length + 1 := by simp
    show World.ownsRow _ 0 _ 1 _ (m.fl ++ [f]).length (ptrRow _ (m.fl ++ [f]).length)
    rw [e, hl2]
    exact kd.own hown (fun b e hm => by
      simp at hm
      have e' : g = b := by simpa [Value.ownBlock] using e
      have h1 := (hgn g (by rw [e', hm]; omega) rfl).1
      rw [e', hm, htd] at h1
      omega)
  · have e' : g = b := by simpa [Value.ownBlock] using e
    rw [← e']; exact hgT
  · intro j q hj
    have hj' : (m.fl ++ [f])[j]? = some q := hj
    by_cases e : j < m.fl.length
    · rw [List.getElem?_append_left e] at hj'
      obtain ⟨a, c, hf⟩ := h.file j q hj'
      rw [hfb j e]
      exact ⟨a, c, (hf.tags ht).keep ka (fun x hx => by have := hin' x hx; omega) (fun x hx => by have := hin' x hx; omega)⟩
    · have e' : j = m.fl.length := by
        have := (List.getElem?_eq_some_iff.1 hj').1
        simp at this; omega
      subst e'
      simp at hj'
      subst hj'
      rw [upd_same]
      have nvf : ∀ x, w.heap.size ≤ x → x ∉ (d :: vf.ownBlock.toList) := fun x hx hm => by
        simp only [List.mem_cons, Option.mem_toList] at hm
        rcases hm with rfl | hm
        · omega
        · have := (hvf x hm).1; omega
      have k2 : Keep (d :: vf.ownBlock.toList) ((w1.alloc (.cells #[.slice a1 f.data.length c1, .int .i64 f.sure] 100)).alloc (.cells #[.pointer (some ⟨w1.heap.size, 0, none⟩)] 96)) (w2.setCell ⟨d, 1, none⟩ (.slice (some ⟨g, 0, none⟩) (m.fl.length + 1) c2)) := (k1.mono (fun b hb => by simp at hb ⊢; exact .inr hb)).trans (kd.mono (fun b hb => by simp at hb; simp [hb]))
      have hbk : (w2.setCell ⟨d, 1, none⟩ (.slice (some ⟨g, 0, none⟩) (m.fl.length + 1) c2)).heap[w1.heap.size]? = some (.cells #[.slice a1 f.data.length c1, .int .i64 f.sure] 100) :=
        (k2.block _ (by simp; omega) (nvf _ (by omega))).trans ((Below.heap_alloc _ _ _ (by simp)).trans (heap_alloc_new w1 _))
      have kA : Keep [] w1 ((w1.alloc (.cells #[.slice a1 f.data.length c1, .int .i64 f.sure] 100)).alloc (.cells #[.pointer (some ⟨w1.heap.size, 0, none⟩)] 96)) := (Keep.alloc _ _ _).trans (Keep.alloc _ _ _)
      refine ⟨a1, c1, ⟨hnewT, fld_of_block hbk (fun j hj => by
        match j, hj with
        | 0, _ => rfl
        | 1, _ => rfl), ?_, fun ad e => hdatT ad.block (by rw [e]; rfl), hsu, hbig⟩⟩
      have r1 := k2.own (kA.own hnew.row (by simp)) (fun x hx => nvf x (hdat _ hx).1)
      exact Hb.of (New.lower ⟨r1, hnew.byte⟩ (Nat.zero_le _))
  · show p.2 < (m.fl ++ [f]).length
    have := h.ids p hp
    simp; omega
  · show p.2 < (m.fl ++ [f]).length
    have := h.idsS p hp
    simp; omega
  · show (m.fl ++ [f]).length ≤ 100000000
    simp; omega

/-- A name more in the directory. -/
theorem Rd.named {T : Nat → Nat} {w w2 : World} {d : Nat} {fb : Nat → Nat} {m : Rm} {vf vn vs vc : Value} (h : Rd T w d fb m vf vn vs vc) {k : Key} {i g c2 : Nat} (hk : look m.now k = none) (hi : i < m.fl.length) (hl : m.now.length < 9000000)
    (hown : w2.ownsRow 0 98 2 (.slice (some ⟨g, 0, none⟩) (m.now.length + 1) c2) (m.now.length + 1) (enRow (ins m.now k i))) (kk : Keep vn.ownBlock.toList w w2) (hat : vn.ownBlock = some g ∨ w.heap.size ≤ g) :
    ∃ T', Rd T' (w2.setCell ⟨d, 2, none⟩ (.slice (some ⟨g, 0, none⟩) (m.now.length + 1) c2)) d fb { m with now := ins m.now k i } vf (.slice (some ⟨g, 0, none⟩) (m.now.length + 1) c2) vs vc ∧ Keep (d :: vn.ownBlock.toList) w (w2.setCell ⟨d, 2, none⟩ (.slice (some ⟨g, 0, none⟩) (m.now.length + 1) c2)) ∧ (∀ b, b < w.heap.size → T' b = T b) := by
  have htd := h.td
  have hdlt : d < w.heap.size := h.top.1
  have hs2 := kk.size
  have hglt : g < w2.heap.size := (hown.lt g rfl).2
  have hvn : ∀ b, vn.ownBlock = some b → b < w.heap.size ∧ T b = 3 := fun b e => ⟨(h.dir.lt b e).2, h.tn b e⟩
  have hgn : g < w.heap.size → T g = 3 := fun hlt => by
    rcases hat with e | e
    · exact (hvn g e).2
    · omega
  have ht : ∀ x, x < w.heap.size → upd T g 3 x = T x := fun x hx => by
    by_cases e : x = g
    · subst e; rw [upd_same, hgn hx]
    · exact upd_other _ _ e
  have kd : Keep [d] w2 (w2.setCell ⟨d, 2, none⟩ (.slice (some ⟨g, 0, none⟩) (m.now.length + 1) c2)) := Keep.set _ _ _ _
  have ka : Keep (d :: vn.ownBlock.toList) w (w2.setCell ⟨d, 2, none⟩ (.slice (some ⟨g, 0, none⟩) (m.now.length + 1) c2)) := (kk.mono (fun b hb => by simp at hb ⊢; exact .inr hb)).trans (kd.mono (fun b hb => by simp at hb; simp [hb]))
  have hin : ∀ x ∈ (d :: vn.ownBlock.toList), T x = 1 ∨ T x = 3 := by
    intro x hx
    simp only [List.mem_cons, Option.mem_toList] at hx
    rcases hx with rfl | hx
    · exact .inl htd
    · exact .inr (hvn x hx).2
  have hin' : ∀ x ∈ (d :: vn.ownBlock.toList), upd T g 3 x = 1 ∨ upd T g 3 x = 3 := fun x hx => by
    have hlt : x < w.heap.size := by
      simp only [List.mem_cons, Option.mem_toList] at hx
      rcases hx with rfl | hx
      · exact hdlt
      · exact (hvn x hx).1
    rw [ht x hlt]
    exact hin x hx
  have hx : ∀ {v : Value} {t : Nat}, t ≠ 1 → t ≠ 3 → (∀ b, v.ownBlock = some b → T b = t) → ∀ b, v.ownBlock = some b → b ∉ (d :: vn.ownBlock.toList) := fun h1 h3 hv b hb hm => by
    have h5 := hv b hb
    rcases hin b hm with h2 | h2 <;> omega
  have hdn : d ∉ vn.ownBlock.toList := fun hm => by
    have := (hvn d (by simpa using hm)).2
    omega
  have tg : ∀ {v : Value} {t : Nat}, (∀ b, v.ownBlock = some b → b < w.heap.size) → (∀ b, v.ownBlock = some b → T b = t) → ∀ b, v.ownBlock = some b → upd T g 3 b = t := fun hlt hv b hb => by rw [ht b (hlt b hb)]; exact hv b hb
  have hlen := len_ins hk i
  refine ⟨upd T g 3, ⟨?_, by rw [ht _ hdlt]; exact htd, fun b hb' => ?_, ka.own h.fls (hx (by omega) (by omega) h.tf), tg (fun b e => (h.fls.lt b e).2) h.tf, ?_, fun b e => ?_, ka.own h.sur (hx (by omega) (by omega) h.ts), tg (fun b e => (h.sur.lt b e).2) h.ts, ka.own h.chg (hx (by omega) (by omega) h.tc), tg (fun b e => (h.chg.lt b e).2) h.tc, ?_, ?_, h.risesS, fun p hp => ?_, h.idsS, h.room, ?_, h.mostS, h.mostF, h.rok⟩, ka, ht⟩
  · refine ((h.top.keep kk hdn).set 2 (by omega) _).eq (fun j hj => ?_)
    match j, hj with
    | 0, _ => rfl
    | 1, _ => rfl
    | 2, _ => rfl
    | 3, _ => rfl
    | 4, _ => rfl
    | 5, _ => rfl
    | 6, _ => rfl
    | 7, _ => rfl
    | 8, _ => rfl
    | 9, _ => rfl
  · have hb2 : w2.heap.size ≤ b := by simpa using hb'
    rw [upd_other _ _ (by omega)]
    exact h.fresh b (by omega)
  · show World.ownsRow _ 0 _ 2 _ (ins m.now k i).length (enRow (ins m.now k i))
    rw [hlen]
    exact kd.own hown (fun b e hm => by
      simp at hm
      have e' : g = b := by simpa [Value.ownBlock] using e
      have h1 := hgn (by rw [e', hm]; exact hdlt)
      rw [e', hm, htd] at h1
      omega)
  · have e' : g = b := by simpa [Value.ownBlock] using e
    rw [← e']; exact upd_same _ _ _
  · intro j q hj
    obtain ⟨a, c, hf⟩ := h.file j q hj
    exact ⟨a, c, (hf.tags ht).keep ka (fun x hx => by have := hin' x hx; omega) (fun x hx => by have := hin' x hx; omega)⟩
  · exact rises_ins h.rises k i
  · show p.2 < m.fl.length
    rcases ins_mem hp with rfl | hp
    · exact hi
    · exact h.ids p hp
  · show (ins m.now k i).length ≤ 9000000
    omega

/-- The directory as it is becomes sure. -/
theorem Rd.sured {T : Nat → Nat} {w w2 : World} {d : Nat} {fb : Nat → Nat} {m : Rm} {vf vn vs vc v2 : Value} (h : Rd T w d fb m vf vn vs vc)
    (hown : w2.ownsRow w.heap.size 98 2 v2 m.now.length (enRow m.now)) (hb : Below w.heap.size w w2) :
    ∃ T', Rd T' (w2.setCell ⟨d, 3, none⟩ v2) d fb { m with su := m.now } vf vn v2 vc ∧ Keep [d] w (w2.setCell ⟨d, 3, none⟩ v2) ∧ (∀ b, b < w.heap.size → T' b = T b) := by
  have htd := h.td
  have hdlt : d < w.heap.size := h.top.1
  have hs2 := hb.size
  have kk : Keep [] w w2 := Keep.below hb
  have kd : Keep [d] w2 (w2.setCell ⟨d, 3, none⟩ v2) := Keep.set _ _ _ _
  have ka : Keep [d] w (w2.setCell ⟨d, 3, none⟩ v2) := (kk.mono (fun b hb => by simp at hb)).trans kd
  have hlt2 : ∀ b, v2.ownBlock = some b → w.heap.size ≤ b ∧ b < w2.heap.size := fun b e => hown.lt b e
  obtain ⟨T', hT⟩ : ∃ T' : Nat → Nat, T' = fun x => if v2.ownBlock = some x then 4 else T x := ⟨_, rfl⟩
  have ht : ∀ x, x < w.heap.size → T' x = T x := fun x hx => by
    rw [hT]; simp only
    rw [if_neg (fun e => by have := (hlt2 x e).1; omega)]
  have hx : ∀ {v : Value} {t : Nat}, t ≠ 1 → (∀ b, v.ownBlock = some b → T b = t) → ∀ b, v.ownBlock = some b → b ∉ [d] := fun h1 hv b hb hm => by
    have h5 := hv b hb
    simp at hm
    rw [hm, htd] at h5
    omega
  have tg : ∀ {v : Value} {t : Nat}, (∀ b, v.ownBlock = some b → b < w.heap.size) → (∀ b, v.ownBlock = some b → T b = t) → ∀ b, v.ownBlock = some b → T' b = t := fun hlt hv b hb => by rw [ht b (hlt b hb)]; exact hv b hb
  have hdT : T' d = 1 := by rw [ht _ hdlt]; exact htd
  refine ⟨T', ⟨?_, hdT, fun b hb' => ?_, ka.own h.fls (hx (by omega) h.tf), tg (fun b e => (h.fls.lt b e).2) h.tf, ka.own h.dir (hx (by omega) h.tn), tg (fun b e => (h.dir.lt b e).2) h.tn, ?_, fun b e => ?_, ka.own h.chg (hx (by omega) h.tc), tg (fun b e => (h.chg.lt b e).2) h.tc, ?_, h.rises, h.rises, h.ids, h.ids, h.room, h.most, h.most, h.mostF, h.rok⟩, ka, ht⟩
  · refine ((h.top.keep kk (by simp)).set 3 (by omega) _).eq (fun j hj => ?_)
    match j, hj with
    | 0, _ => rfl
    | 1, _ => rfl
    | 2, _ => rfl
    | 3, _ => rfl
    | 4, _ => rfl
    | 5, _ => rfl
    | 6, _ => rfl
    | 7, _ => rfl
    | 8, _ => rfl
    | 9, _ => rfl
  · have hb2 : w2.heap.size ≤ b := by simpa using hb'
    rw [hT]; simp only
    rw [if_neg (fun e => by have := (hlt2 b e).2; omega)]
    exact h.fresh b (by omega)
  · refine kd.own ⟨hown.1, ?_⟩ (fun b e hm => by simp at hm; have := (hlt2 b e).1; omega)
    rcases hown.2 with h1 | ⟨g, cap, cur, h1, h2, h3⟩
    · exact .inl h1
    · exact .inr ⟨g, cap, cur, h1, Nat.zero_le _, h3⟩
  · rw [hT]; simp only; rw [if_pos e]
  · intro j q hj
    obtain ⟨a, c, hf⟩ := h.file j q hj
    exact ⟨a, c, (hf.tags ht).keep ka (fun x hx => by simp at hx; subst hx; omega) (fun x hx => by simp at hx; subst hx; omega)⟩
end Dsk
end Go.Proofs.Ytbloifnibgdeoaa
