import Derived.Test.YtbloifnibgdeoaaProg
import Derived.Test.YtbloifnibgdeoaaDRoo
import Derived.WalkKit
import Derived.WalkSpells
import Derived.WalkLawsBesides
import Derived.Deep.RegionLaw
import Derived.Deep.DrawnRows
namespace Go.Proofs.Ytbloifnibgdeoaa
namespace Dsk
open Go.RowKit Go.Maps Go.Sort Byt Laws
set_option linter.unusedVariables false
set_option maxRecDepth 100000
attribute [local go_sem ↓] Go.wp_at_zero Go.wp_at_succ

theorem own_slice {w : World} {base : Nat} {e : TypeId} {size : Nat} {v : Value} {n : Nat} {xs : List Value} (h : w.ownsRow base e size v n xs) : ∃ a c, v = .slice a n c := by
  rcases h.2 with ⟨rfl, rfl⟩ | ⟨g, cap, cur, rfl, _⟩
  · exact ⟨none, 0, rfl⟩
  · exact ⟨_, cap, rfl⟩
theorem chgRow_append (fb : Nat → Nat) (l : List Chg) (c : Chg) : chgRow fb (l ++ [c]) = chgRow fb l ++ chgCells fb c := by simp [chgRow]

def Dm.note (m : Dm) (c : Chg) : Dm := { m with ch := m.ch ++ [c] }
theorem Pdi.note {T : Nat → Nat} {w w0 w1 : World} {d mb : Nat} {fb : Nat → Nat} {m : Dm} {cv : Value} {D : DataW (Option Addr)} (h : Pdi T w d mb fb m cv D) (hk : Keep [] w w0) (hg : w0.grownBy w1 cv.ownBlock) {g c' : Nat} {c : Chg}
    (hown : w1.ownsRow 0 112 4 (.slice (some ⟨g, 0, none⟩) (m.ch.length + 1) c') (m.ch.length + 1) (chgRow fb m.ch ++ chgCells fb c)) (hat : cv.ownBlock = some g ∨ w.heap.size ≤ g) (hc : (∀ i, c.was = some i → i < m.fl.length) ∧ (∀ i, c.over = some i → i < m.fl.length)) (hcs : c.name.size ≤ maxLen ∧ c.to.size ≤ maxLen) :
    Fld 9 w1 d (Top.cell ⟨m.rig, m.room, m.used, .map (some mb), cv, m.down⟩) ∧ ∃ T', Pdi T' (w1.setCell ⟨d, 7, none⟩ (.slice (some ⟨g, 0, none⟩) (m.ch.length + 1) c')) d mb fb (m.note c) (.slice (some ⟨g, 0, none⟩) (m.ch.length + 1) c') D ∧ Goes T T' w (w1.setCell ⟨d, 7, none⟩ (.slice (some ⟨g, 0, none⟩) (m.ch.length + 1) c')) := by
  generalize hvv : Value.slice (some ⟨g, 0, none⟩) (m.ch.length + 1) c' = v' at *
  have hob : v'.ownBlock = some g := by rw [← hvv]; rfl
  have htd := h.td
  have hdlt : d < w.heap.size := h.top.1.1
  have k1 : Keep cv.ownBlock.toList w w1 := (hk.mono (by simp)).trans (Keep.grown hg)
  have hT3 : ∀ x ∈ cv.ownBlock.toList, T x = 3 ∧ x < w.heap.size := by
    intro x hx
    have e : cv.ownBlock = some x := by simpa using hx
    exact ⟨h.tc x e, (h.chg.lt x e).2⟩
  have k2 := Keep.set w1 d 7 v'
  have k : Keep (cv.ownBlock.toList ++ [d]) w (w1.setCell ⟨d, 7, none⟩ v') := (k1.mono (by intro x hx; simp [hx])).trans (k2.mono (by intro x hx; simp at hx; simp [hx]))
  have hs1 := k1.size
  have hsz : (w1.setCell ⟨d, 7, none⟩ v').heap.size = w1.heap.size := by simp
  obtain ⟨T', hT⟩ : ∃ T' : Nat → Nat, T' = upd T g 3 := ⟨_, rfl⟩
  have ht : ∀ x, x < w.heap.size → T' x = T x := by
    intro x hx
    by_cases e : x = g
    · subst e
      rw [hT, upd_same]
      rcases hat with hat | hat
      · exact (h.tc x hat).symm
      · omega
    · rw [hT, upd_other _ _ e]
  have hin : ∀ x ∈ cv.ownBlock.toList ++ [d], T' x = 3 ∨ T' x = 1 := by
    intro x hx
    rcases List.mem_append.1 hx with hx | hx
    · left; rw [ht x (hT3 x hx).2]; exact (hT3 x hx).1
    · simp at hx; subst hx
      right; rw [ht _ hdlt]; exact htd
  have hgd : g ≠ d := by
    rintro rfl
    have := ht _ hdlt
    rw [hT, upd_same] at this; omega
  have t1 := h.top.keep k1 (fun hx => by have := (hT3 d hx).1; omega)
  refine ⟨t1.1, T', ⟨?_, ?_, ?_, ?_, ?_, ?_, ?_, h.dir, ?_, h.ids, h.apart, ?_, h.room, h.most, ?_⟩, ?_⟩
  · exact ⟨(t1.1.set 7 (by omega) _).eq (nine rfl rfl rfl rfl rfl rfl rfl rfl rfl), t1.2⟩
  · rw [ht d hdlt]; exact htd
  · rw [ht mb h.map.lt]; exact h.tm
  · intro b hb
    rw [hsz] at hb
    have hg1 := (hown.lt g hob).2
    rw [hT, upd_other _ _ (by omega)]
    exact h.fresh b (by omega)
  · show (w1.setCell ⟨d, 7, none⟩ v').ownsRow 0 112 4 v' (m.ch ++ [c]).length (chgRow fb (m.ch ++ [c]))
    rw [chgRow_append, List.length_append]
    exact k2.own hown (fun x hx hm => by rw [hob] at hx; simp at hx hm; omega)
  · intro b hb
    rw [hob] at hb; cases hb
    rw [hT, upd_same]
  · obtain ⟨es, clock, h1, h2⟩ := h.map
    refine ⟨es, clock, (k.block mb h.map.lt (fun hm => ?_)).trans h1, h2⟩
    have := hin mb hm
    have := ht mb h.map.lt
    have := h.tm
    omega
  · intro j f hj
    obtain ⟨a2, c2, hfj⟩ := h.file j f hj
    exact ⟨a2, c2, (hfj.tags ht).keep k (fun x hx => by have := hin x hx; omega) (fun x hx => by have := hin x hx; omega)⟩
  · intro x hx
    have hx' : x ∈ m.ch ++ [c] := hx
    rcases List.mem_append.1 hx' with hx | hx
    · exact h.cids x hx
    · simp at hx; subst hx; exact hc
  · intro x hx
    have hx' : x ∈ m.ch ++ [c] := hx
    rcases List.mem_append.1 hx' with hx | hx
    · exact h.csz x hx
    · simp at hx; subst hx; exact hcs
  · refine ⟨k.os, k.tape, k.output, k.size, fun b hb hz => ⟨k.block b hb (fun hm => ?_), by rw [ht b hb]; exact hz⟩⟩
    have := hin b hm
    rw [ht b hb, hz] at this
    omega

theorem infoC : (Try.prog.info? 112).map (fun i => (i.zero, i.size, i.bytes)) = some (some (.agg #[.string ByteArray.empty, .pointer none, .string ByteArray.empty, .pointer none]), 4, 48) := by kernel_rfl
set_option maxHeartbeats 1000000 in
theorem note_any {T : Nat → Nat} {w : World} {d mb : Nat} {fb : Nat → Nat} {m : Dm} (h : Pd T w d mb fb m) (c : Chg) (hc : (∀ i, c.was = some i → i < m.fl.length) ∧ (∀ i, c.over = some i → i < m.fl.length)) (hm : m.ch.length ≤ 1000000) (hcs : c.name.size ≤ maxLen ∧ c.to.size ≤ maxLen) :
    Calls Try.prog 61 #[.pointer (some ⟨d, 0, none⟩), .agg #[.string c.name, pv fb c.was, .string c.to, pv fb c.over]] w fun e w' => e = .returned (.tuple #[]) ∧ ∃ T', Pd T' w' d mb fb (m.note c) ∧ Goes T T' w w' := by
  obtain ⟨cv, D, h⟩ := h
  obtain ⟨a, ca, rfl⟩ := own_slice h.chg
  obtain ⟨i4, hi4, hz0, hz1, hz2⟩ := info_parts infoC
  have HH : Hid (Pdi T w d mb fb m (.slice a m.ch.length ca) D) := h
  have HC : Hid ((∀ i, c.was = some i → i < m.fl.length) ∧ (∀ i, c.over = some i → i < m.fl.length)) := hc
  have HCS : Hid (c.name.size ≤ maxLen ∧ c.to.size ≤ maxLen) := hcs
  clear hcs
  have c7 := (h.top.1.2 7 (by omega)).1
  simp only [Top.cell] at c7
  have hd := h.top.1.1
  have HO : Hid (w.ownsRow 0 112 4 (.slice a m.ch.length ca) m.ch.length (chgRow fb m.ch)) := h.chg
  have p1 : ∀ x, (pv fb x).oneCell' = true := by intro x; cases x <;> rfl
  obtain ⟨q1, hq1⟩ : ∃ q, q = pv fb c.was := ⟨_, rfl⟩
  obtain ⟨q2, hq2⟩ : ∃ q, q = pv fb c.over := ⟨_, rfl⟩
  have o1 : q1.oneCell' = true := by rw [hq1]; exact p1 _
  have o2 : q2.oneCell' = true := by rw [hq2]; exact p1 _
  have HQ : Hid (q1 = pv fb c.was ∧ q2 = pv fb c.over) := ⟨hq1, hq2⟩
  have hcell1 : ∃ z, q1 = .pointer z := by rw [hq1]; cases c.was <;> exact ⟨_, rfl⟩
  have hcell2 : ∃ z, q2 = .pointer z := by rw [hq2]; cases c.over <;> exact ⟨_, rfl⟩
  rw [← hq1, ← hq2]
  clear h hc hq1 hq2
  obtain ⟨z1, rfl⟩ := hcell1
  obtain ⟨z2, rfl⟩ := hcell2
  go_enter Try.func61, Try.ntmps61
  go_wp2
  have hk0 : Keep [] w (w.alloc (.cells #[.string c.name, .pointer z1, .string c.to, .pointer z2] 112)) := Keep.alloc _ _ _
  have b0 : (w.alloc (.cells #[.string c.name, .pointer z1, .string c.to, .pointer z2] 112)).cell? ⟨w.heap.size, 0, none⟩ = some (.string c.name) := by rw [World.cell?_alloc_at _ _ _ _ rfl]; rfl
  have b1 : (w.alloc (.cells #[.string c.name, .pointer z1, .string c.to, .pointer z2] 112)).cell? ⟨w.heap.size, 1, none⟩ = some (.pointer z1) := by rw [World.cell?_alloc_at _ _ _ _ rfl]; rfl
  have b2 : (w.alloc (.cells #[.string c.name, .pointer z1, .string c.to, .pointer z2] 112)).cell? ⟨w.heap.size, 2, none⟩ = some (.string c.to) := by rw [World.cell?_alloc_at _ _ _ _ rfl]; rfl
  have b3 : (w.alloc (.cells #[.string c.name, .pointer z1, .string c.to, .pointer z2] 112)).cell? ⟨w.heap.size, 3, none⟩ = some (.pointer z2) := by rw [World.cell?_alloc_at _ _ _ _ rfl]; rfl
  have HO' : Hid ((w.alloc (.cells #[.string c.name, .pointer z1, .string c.to, .pointer z2] 112)).ownsRow 0 112 4 (.slice a m.ch.length ca) m.ch.length (chgRow fb m.ch)) := hk0.own HO.out (by simp)
  have c7' : (w.alloc (.cells #[.string c.name, .pointer z1, .string c.to, .pointer z2] 112)).cell? ⟨d, 7, none⟩ = some (.slice a m.ch.length ca) := by rw [hk0.cell hd (by simp)]; exact c7
  have HK : Hid (Keep [] w (w.alloc (.cells #[.string c.name, .pointer z1, .string c.to, .pointer z2] 112))) := hk0
  have hd' : d < (w.alloc (.cells #[.string c.name, .pointer z1, .string c.to, .pointer z2] 112)).heap.size := Nat.lt_of_lt_of_le hd hk0.size
  have hH : w.heap.size < (w.alloc (.cells #[.string c.name, .pointer z1, .string c.to, .pointer z2] 112)).heap.size := by simp
  clear hk0 c7 HO
  generalize w.alloc (.cells #[.string c.name, .pointer z1, .string c.to, .pointer z2] 112) = W at *
  obtain ⟨B, hB⟩ : ∃ B, B = w.heap.size := ⟨_, rfl⟩
  rw [← hB] at b0 b1 b2 b3 hH ⊢
  have HBB : Hid (B = w.heap.size) := hB
  clear hB hd
  go_region_law (first
    | (refine step_app _ (by rfl) (.tmp 8) (.tmp 10) 83 (by rfl) 0 112 i4 _ 4 48 Try.underlying83 hi4 hz0 hz1 hz2 rfl (by omega) (.slice a m.ch.length ca) m.ch.length (chgRow fb m.ch) (by rfl) (HO'.out.alloc _) ⟨W.heap.size, 0, none⟩ 1 1 [.string c.name, .pointer z1, .string c.to, .pointer z2] (by rfl) (by rfl) (World.news_of_block (heap_alloc_new W _)) (by intro u hu; simp at hu; rcases hu with rfl | rfl | rfl | rfl <;> rfl) (by intro _; omega) (by unfold maxLen; omega) (by omega) (Nat.zero_le _) (W.heap.size + 1) (by simp) ?_; intro g7 c7 w7 hown7 hgr7 hat7 hlt7; rw [show ([.string c.name, .pointer z1, .string c.to, .pointer z2] : List Value) = chgCells fb c by simp only [chgCells, ← HQ.out.1, ← HQ.out.2]] at hown7; have HR : Hid (Fld 9 w7 d (Top.cell ⟨m.rig, m.room, m.used, .map (some mb), .slice a m.ch.length ca, m.down⟩) ∧ ∃ T', Pdi T' (w7.setCell ⟨d, 7, none⟩ (.slice (some ⟨g7, 0, none⟩) (m.ch.length + 1) c7)) d mb fb (m.note c) (.slice (some ⟨g7, 0, none⟩) (m.ch.length + 1) c7) D ∧ Goes T T' w (w7.setCell ⟨d, 7, none⟩ (.slice (some ⟨g7, 0, none⟩) (m.ch.length + 1) c7))) := HH.out.note (HK.out.trans ((Keep.alloc [] _ _).trans (Keep.drew [] _))) hgr7 hown7 (hat7.imp id (by have := HK.out.size; omega)) HC.out HCS.out; have s7 := (HR.out.1.2 7 (by omega)).1; have z7 := (HR.out.1.2 7 (by omega)).2; simp only [Top.cell] at s7; clear hown7 hgr7 hat7 hlt7))
  all_goals
    go_end0
    obtain ⟨_, T', r1, r2⟩ := HR.out
    exact ⟨rfl, T', ⟨_, _, r1⟩, r2⟩
end Dsk
end Go.Proofs.Ytbloifnibgdeoaa
