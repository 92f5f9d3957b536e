import Derived.Test.YtdbiliigbinmfaaDoorProg
import Derived.Test.YtdbiliigbinmfaaDoorRom
import Derived.Test.YtdbiliigbinmfaaDoorCBackM
import Derived.WalkKit
import Derived.WalkSpells
import Derived.WalkLawsBesides
namespace Go.Proofs.YtdbiliigbinmfaaDoor
namespace Rom
open Go.RowKit CMath Byt Cod Laws
set_option linter.unusedVariables false
set_option maxRecDepth 20000

theorem info22 : (Tryd.prog.info? 23).map (fun i => (i.zero, i.size, i.bytes)) = some (some (.slice none 0 0), 1, 24) := by kernel_rfl
theorem info3 : (Tryd.prog.info? 3).map (fun i => (i.zero, i.size, i.bytes)) = some (some (.int .i64 0), 1, 8) := by kernel_rfl

theorem news_set (w : World) (p : Addr) (x : Value) (cs : Array Value) (t : TypeId) : ∀ j u, cs.toList[j]? = some u → ((w.setCell p x).alloc (.cells cs t)).cell? ((⟨w.heap.size, 0, none⟩ : Addr).add j) = some u := by
  have h := World.news_of_block (heap_alloc_new (w.setCell p x) (.cells cs t))
  have e : (w.setCell p x).heap.size = w.heap.size := by simp
  rw [e] at h
  exact h

theorem not_mem_of {o : Option Nat} {R : Nat} (h : o ≠ some R) : R ∉ o.toList := by
  cases o with
  | none => simp
  | some x => simp; intro e; exact h (by rw [e])
/-- One thing laid behind what the room has: all but the row stays. -/
theorem keep_app {wr w2 : World} {o : Obj} {r : Option Nat} (h : (wr.alloc o).grownBy w2 r) : Keep r.toList wr w2 := (Keep.alloc _ wr o).trans (Keep.grown h)

/-- What layBytes leaves. -/
theorem laid {w wr w2 w3 : World} {R B g c n : Nat} {v0 v1 v0' v1' : Value} {hs : List Lent} {l : List Nat} {x0 x1 : Obj} (hRm : Rm w R B v0 v1 hs) (hB : Below w.heap.size w wr)
    (hO : wr.ownsRow w.heap.size 5 1 (.slice (some ⟨g, 0, none⟩) n c) n (cellsB (l ++ marks 600))) (hn : n = l.length + 600)
    (hg2 : (wr.alloc x0).grownBy w2 v0.ownBlock) (ho2 : w2.ownsRow B 23 1 v0' (hs.length + 1) (heads hs ++ [.slice (some ⟨g, 0, none⟩) n c])) (hat2 : v0'.ownBlock = v0.ownBlock ∨ v0'.ownBlock = some (wr.heap.size + 1))
    (hg3 : ((w2.setCell ⟨R, 0, none⟩ v0').alloc x1).grownBy w3 v1.ownBlock) (ho3 : w3.ownsRow B 3 1 v1' (hs.length + 1) (lens hs ++ [.int .i64 (l.length : Int)])) (hat3 : v1'.ownBlock = v1.ownBlock ∨ v1'.ownBlock = some (w2.heap.size + 1)) :
    Rm (w3.setCell ⟨R, 1, none⟩ v1') R B v0' v1' (hs ++ [(g, l.length, c)]) ∧ BRow (w3.setCell ⟨R, 1, none⟩ v1') g 0 l ∧ w.heap.size ≤ g ∧ (∀ x, v0'.ownBlock = some x → v0.ownBlock = some x ∨ w.heap.size ≤ x) ∧ (∀ x, v1'.ownBlock = some x → v1.ownBlock = some x ∨ w.heap.size ≤ x) ∧
      Keep (R :: (v0.ownBlock.toList ++ v1.ownBlock.toList)) w (w3.setCell ⟨R, 1, none⟩ v1') := by
  have s1 := hB.size
  have K1 : Keep [] w wr := Keep.below hB
  have K2 : Keep v0.ownBlock.toList wr w2 := keep_app hg2
  have K3 : Keep [R] w2 (w2.setCell ⟨R, 0, none⟩ v0') := Keep.set _ _ _ _
  have K4 : Keep v1.ownBlock.toList (w2.setCell ⟨R, 0, none⟩ v0') w3 := keep_app hg3
  have K5 : Keep [R] w3 (w3.setCell ⟨R, 1, none⟩ v1') := Keep.set _ _ _ _
  have s2 := hg2.size
  have s3 := hg3.size
  simp at s2 s3
  have hR : R < w.heap.size := hRm.lt
  have l0 : ∀ x, v0.ownBlock = some x → x < w.heap.size := fun x hx => (hRm.o0.lt x hx).2
  have l1 : ∀ x, v1.ownBlock = some x → x < w.heap.size := fun x hx => (hRm.o1.lt x hx).2
  obtain ⟨lg, lg2⟩ := hO.lt g rfl
  have R0 := not_mem_of hRm.r0
  have R1 := not_mem_of hRm.r1
  have g0 : g ∉ v0.ownBlock.toList := not_mem_of (fun e => by have := l0 g e; omega)
  have g1 : g ∉ v1.ownBlock.toList := not_mem_of (fun e => by have := l1 g e; omega)
  have gR : g ∉ [R] := by simp; omega
  -- where the new spines lie
  have b0 : ∀ x, v0'.ownBlock = some x → x ≠ R ∧ v1.ownBlock ≠ some x ∧ (v0.ownBlock = some x ∨ wr.heap.size + 1 = x) ∧ x < w2.heap.size := by
    intro x hx
    have lx := (ho2.lt x hx).2
    rcases hat2 with e | e
    · rw [e] at hx
      refine ⟨?_, ?_, .inl hx, lx⟩
      · rintro rfl; exact hRm.r0 hx
      · exact hRm.d01 x hx
    · rw [e] at hx
      cases hx
      exact ⟨by omega, fun e => by have := l1 _ e; omega, .inr rfl, lx⟩
  have b1 : ∀ x, v1'.ownBlock = some x → x ≠ R ∧ v0'.ownBlock ≠ some x ∧ (v1.ownBlock = some x ∨ w2.heap.size + 1 = x) := by
    intro x hx
    rcases hat3 with e | e
    · rw [e] at hx
      refine ⟨?_, ?_, .inl hx⟩
      · rintro rfl; exact hRm.r1 hx
      · intro e0
        exact (b0 x e0).2.1 hx
    · rw [e] at hx
      cases hx
      refine ⟨by omega, fun e0 => ?_, .inr rfl⟩
      have := (b0 _ e0).2.2.2
      omega
  have G : ∀ (p : Addr), p.block = g → (w3.setCell ⟨R, 1, none⟩ v1').cell? p = wr.cell? p ∧ (w3.setCell ⟨R, 1, none⟩ v1').frozen? p = wr.frozen? p := by
    intro p hp
    have h2 : p.block < wr.heap.size := by omega
    have h3 : p.block < w2.heap.size := by omega
    have h4 : p.block < (w2.setCell ⟨R, 0, none⟩ v0').heap.size := by simp; omega
    have h5 : p.block < w3.heap.size := by omega
    rw [← hp] at g0 g1 gR
    exact ⟨(K5.cell h5 gR).trans ((K4.cell h4 g1).trans ((K3.cell h3 gR).trans (K2.cell h2 g0))), (K5.frozen h5 gR).trans ((K4.frozen h4 g1).trans ((K3.frozen h3 gR).trans (K2.frozen h2 g0)))⟩
  have hrow : BRow wr g 0 (l ++ marks 600) := row_of_own hO (by simp [marks_length, hn])
  have hcap : n ≤ c ∧ c ≤ maxLen := by
    rcases hO.2 with ⟨h1, _⟩ | ⟨g', c', cur, h1, _, _, h2, h3, _⟩
    · cases h1
    · cases h1; exact ⟨h2, h3⟩
  have hfz : ∀ j, wr.frozen? ⟨g, j, none⟩ = false := by
    rcases hO.2 with ⟨h1, _⟩ | ⟨g', c', cur, h1, _, h2, _⟩
    · cases h1
    · cases h1
      intro j
      exact Lib.frozen_of_heap h2 _
  have O0 : (w3.setCell ⟨R, 1, none⟩ v1').ownsRow B 23 1 v0' (hs.length + 1) (heads hs ++ [.slice (some ⟨g, 0, none⟩) n c]) :=
    K5.own (K4.own (K3.own ho2 (fun x hx => by simp; exact (b0 x hx).1)) (fun x hx => not_mem_of (b0 x hx).2.1)) (fun x hx => by simp; exact (b0 x hx).1)
  have O1 : (w3.setCell ⟨R, 1, none⟩ v1').ownsRow B 3 1 v1' (hs.length + 1) (lens hs ++ [.int .i64 (l.length : Int)]) :=
    K5.own ho3 (fun x hx => by simp; exact (b1 x hx).1)
  have hRr : R < wr.heap.size := by omega
  have hR2 : R < w2.heap.size := by omega
  have hR2' : R < (w2.setCell ⟨R, 0, none⟩ v0').heap.size := by simp; omega
  have c20 : w2.cell? ⟨R, 0, none⟩ = some v0 := (K2.cell (p := ⟨R, 0, none⟩) hRr R0).trans ((K1.cell (p := ⟨R, 0, none⟩) hR (by simp)).trans hRm.c0)
  have c21 : w2.cell? ⟨R, 1, none⟩ = some v1 := (K2.cell (p := ⟨R, 1, none⟩) hRr R0).trans ((K1.cell (p := ⟨R, 1, none⟩) hR (by simp)).trans hRm.c1)
  have c30 : w3.cell? ⟨R, 0, none⟩ = some v0' := (K4.cell (p := ⟨R, 0, none⟩) hR2' R1).trans (World.cell?_setCell_same _ _ _ c20)
  have c31 : w3.cell? ⟨R, 1, none⟩ = some v1 := (K4.cell (p := ⟨R, 1, none⟩) hR2' R1).trans ((World.cell?_setCell_other _ _ _ _ (by simp)).trans c21)
  have hother : ∀ j, 2 ≤ j → (w3.setCell ⟨R, 1, none⟩ v1').cell? ⟨R, j, none⟩ = w.cell? ⟨R, j, none⟩ := fun j hj =>
    (World.cell?_setCell_other _ _ _ _ (fun e => by simp only [Addr.mk.injEq] at e; omega)).trans ((K4.cell (p := ⟨R, j, none⟩) hR2' R1).trans ((World.cell?_setCell_other _ _ _ _ (fun e => by simp only [Addr.mk.injEq] at e; omega)).trans ((K2.cell (p := ⟨R, j, none⟩) hRr R0).trans (K1.cell (p := ⟨R, j, none⟩) hR (by simp)))))
  have hfr : ∀ j, (w3.setCell ⟨R, 1, none⟩ v1').frozen? ⟨R, j, none⟩ = w.frozen? ⟨R, j, none⟩ := fun j => by
    rw [World.frozen?_setCell]
    refine (K4.frozen (p := ⟨R, j, none⟩) hR2' R1).trans ?_
    rw [World.frozen?_setCell]
    exact (K2.frozen (p := ⟨R, j, none⟩) hRr R0).trans (K1.frozen (p := ⟨R, j, none⟩) hR (by simp))
  have hsize : (w3.setCell ⟨R, 1, none⟩ v1').heap.size = w3.heap.size := by simp
  have KK : Keep (R :: (v0.ownBlock.toList ++ v1.ownBlock.toList)) w (w3.setCell ⟨R, 1, none⟩ v1') :=
    (K1.mono (by simp)).trans ((K2.mono (fun x hx => by simp [hx])).trans ((K3.mono (fun x hx => by simp at hx; simp [hx])).trans ((K4.mono (fun x hx => by simp [hx])).trans (K5.mono (fun x hx => by simp at hx; simp [hx])))))
  have hrow' : BRow (w3.setCell ⟨R, 1, none⟩ v1') g 0 (l ++ marks 600) := ⟨by rw [hsize]; omega, fun i x hx => (G ⟨g, 0 + i, none⟩ rfl).1.trans (hrow.2 i x hx)⟩
  refine ⟨?_, ?_, lg, ?_, ?_, KK⟩
  · exact {
      lt := by rw [hsize]; omega
      base := hRm.base
      c0 := (World.cell?_setCell_other _ _ _ _ (by simp)).trans c30
      c1 := World.cell?_setCell_same _ _ _ c31
      o0 := by
        have e : heads (hs ++ [(g, l.length, c)]) = heads hs ++ [.slice (some ⟨g, 0, none⟩) n c] := by simp [heads, hn]
        rw [e, List.length_append]
        exact O0
      o1 := by
        have e : lens (hs ++ [(g, l.length, c)]) = lens hs ++ [.int .i64 (l.length : Int)] := by simp [lens]
        rw [e, List.length_append]
        exact O1
      r0 := fun e => (b0 R e).1 rfl
      r1 := fun e => (b1 R e).1 rfl
      d01 := fun x e0 e1 => (b1 x e1).2.1 e0
      nils := fun j h2 h3 => (hother j h2).trans (hRm.nils j h2 h3)
      f0 := (hfr 0).trans hRm.f0
      f1 := (hfr 1).trans hRm.f1
      lent := fun x hx => by
        rcases List.mem_append.1 hx with hx | hx
        · obtain ⟨a1, a2, a3, a4, a5, a6, a7⟩ := hRm.lent x hx
          have hnm : x.1 ∉ R :: (v0.ownBlock.toList ++ v1.ownBlock.toList) := by
            simp only [List.mem_cons, List.mem_append]
            rintro (h | h | h)
            · exact a2 h
            · exact not_mem_of a3 h
            · exact not_mem_of a4 h
          refine ⟨a1, a2, fun e => ?_, fun e => ?_, a5.keep (KK.block x.1 a5.1 hnm) KK.size, fun j => (KK.frozen (p := ⟨x.1, j, none⟩) a5.1 hnm).trans (a6 j), a7⟩
          · rcases (b0 _ e).2.2.1 with h | h
            · exact a3 h
            · have := a5.1; omega
          · rcases (b1 _ e).2.2 with h | h
            · exact a4 h
            · have := a5.1; omega
        · simp only [List.mem_singleton] at hx
          subst hx
          refine ⟨by have := hRm.base; show B ≤ g; omega, by show g ≠ R; omega, fun e => ?_, fun e => ?_, ?_, fun j => (G ⟨g, j, none⟩ rfl).2.trans (hfz j), by show l.length + 600 ≤ c; omega, hcap.2⟩
          · rcases (b0 _ e).2.2.1 with h | h
            · have := l0 _ h; simp only at this; omega
            · simp only at h; omega
          · rcases (b1 _ e).2.2 with h | h
            · have := l1 _ h; simp only at this; omega
            · simp only at h; omega
          · have := hrow'.drop l.length
            rw [drop_len, Nat.zero_add] at this
            exact this }
  · have := hrow'.take l.length
    rw [take_len] at this
    exact this
  · intro x hx
    rcases (b0 x hx).2.2.1 with h | h
    · exact .inl h
    · exact .inr (by omega)
  · intro x hx
    rcases (b1 x hx).2.2 with h | h
    · exact .inl h
    · exact .inr (by omega)

theorem own_new {w : World} {base : Nat} {e : TypeId} {v : Value} {n : Nat} {xs : List Value} (h : w.ownsRow base e 1 v n xs) (hn : 0 < n) : ∃ g c, v = .slice (some ⟨g, 0, none⟩) n c ∧ n ≤ c := by
  rcases h.2 with ⟨_, h0⟩ | ⟨g, c, cur, h', _, _, hc, _⟩
  · omega
  · exact ⟨g, c, h', hc⟩
theorem shape1 {w : World} {base : Nat} {e : TypeId} {v : Value} {n : Nat} {xs : List Value} (h : w.ownsRow base e 1 v n xs) : ∃ a c, v = .slice a n c := by
  rcases h.2 with ⟨h0, h1⟩ | ⟨g, c, cur, h', _⟩
  · exact ⟨none, 0, by rw [h0, h1]⟩
  · exact ⟨_, _, h'⟩

set_option maxHeartbeats 1000000 in
theorem layBytes_any (R B : Nat) (v0 v1 : Value) (hs : List Lent) (a : Option Addr) (cap : Nat) (l : List Nat) (w : World) (hRm : Rm w R B v0 v1 hs) (hsl : hs.length ≤ 1000)
    (hn : a = none → cap = 0) (h : IsB w a l) (hlen : l.length + 600 ≤ 140737488355328) :
    Calls Tryd.prog 21 #[.pointer (some ⟨R, 0, none⟩), .slice a l.length cap, .int .i64 600] w fun e w' => ∃ g c v0' v1', e = .returned (.slice (some ⟨g, 0, none⟩) l.length (l.length + 600)) ∧
      Rm w' R B v0' v1' (hs ++ [(g, l.length, c)]) ∧ BRow w' g 0 l ∧ w.heap.size ≤ g ∧ (∀ x, v0'.ownBlock = some x → v0.ownBlock = some x ∨ w.heap.size ≤ x) ∧ (∀ x, v1'.ownBlock = some x → v1.ownBlock = some x ∨ w.heap.size ≤ x) ∧
      Keep (R :: (v0.ownBlock.toList ++ v1.ownBlock.toList)) w w' := by
  obtain ⟨i8, hi, hz0, hz1, hz2⟩ := info_parts info8
  have HRm : Hid (Rm w R B v0 v1 hs) := hRm
  have HOWN : Hid ((w.alloc (.cells #[] 5)).ownsRow w.heap.size 5 1 (.slice (some ⟨w.heap.size, 0, none⟩) 0 0) 0 (cellsB [])) := World.ownsRow_lit w #[] 0 (Nat.le_refl _) (by simp [maxLen]) (by simp)
  have HN : Hid (a = none → cap = 0) := hn
  have HI : Hid (IsB (w.alloc (.cells #[] 5)) a l) := h.below ((Below.refl _ _).alloc (Nat.le_refl _) _)
  have HBY : Hid (∀ x ∈ l, x < 256) := h.2
  clear h hn hRm
  go_enter Tryd.func21, Tryd.ntmps21
  go_wp2_with (at_builtin; refine wpList_appB (by rfl) (.tmp 10) (.tmp 11) 23 (by rfl) w.heap.size 5 i8 Tryd.underlying23 hi hz0 hz1 hz2 _ [] 0 (by rfl) HOWN.out a l.length cap l (by rfl) rfl HN.out HI.out (by omega) (by simp) ?_; intro u1 w1 hown1 hgr1 hnn1; have HG : Hid ((w.alloc (.cells #[] 5)).grownBy w1 (some w.heap.size)) := hgr1; have HOWN1 : Hid (w1.ownsRow w.heap.size 5 1 u1 (0 + l.length) (cellsB l)) := hown1; clear hgr1 hown1 hnn1)
  have HB1 : Hid (Below w.heap.size w w1) := (((Below.refl _ _).alloc (Nat.le_refl _) _).grown HG.out (by simp) (by intro k hk; cases hk; exact Nat.le_refl _))
  go_loopw [7, 8] (fun v i wr => ∃ k : Nat, k ≤ 600 ∧ i = .int .i64 k ∧ wr.ownsRow w.heap.size 5 1 v (l.length + k) (cellsB (l ++ marks k)) ∧ Below w.heap.size w wr) (fun _ i _ => 600 - (intOf i).toNat)
  case atStart => exact ⟨0, Nat.zero_le _, rfl, by simpa [marks] using HOWN1.out, HB1.out⟩
  case round =>
    obtain ⟨k, hk, rfl, hown, hbe⟩ := hrel
    have hsz := hbe.size
    have HO : Hid (wr.ownsRow w.heap.size 5 1 _ (l.length + k) (cellsB (l ++ marks k))) := hown
    have HB : Hid (Below w.heap.size w wr) := hbe
    clear hown hbe
    by_cases hlt : k < 600
    · go_wp2_with (first | (go_at_call 54; refine (lot_any _ k _ rfl (by omega)).mono ?_; rintro e w' ⟨rfl, hw⟩; have hw2 := hw.symm; clear hw; subst hw2) | (at_builtin; refine wpList_appB (by rfl) (.tmp 18) (.tmp 22) 23 (by rfl) w.heap.size 5 i8 Tryd.underlying23 hi hz0 hz1 hz2 _ (l ++ marks k) (l.length + k) (by rfl) (HO.out.alloc _) (some ⟨wr.heap.size, 0, none⟩) 1 1 [mark k] (by rfl) rfl (by simp) (isB_new (lot_byte k) (mark_lt k)) (by omega) (by simp; omega) ?_; intro v2 w2 hown2 hgr2 hnn2; have HG2 : Hid ((wr.alloc _).grownBy w2 _) := hgr2; have HO2 : Hid (w2.ownsRow w.heap.size 5 1 v2 (l.length + k + 1) (cellsB (l ++ marks k ++ [mark k]))) := hown2; clear hgr2 hown2 hnn2))
      have HB2 : Hid (Below w.heap.size w w2) := below_of (HB.out.alloc hsz _) HG2.out (Nat.le_refl _) (fun j hj => (HO.out.lt j hj).1)
      refine ⟨⟨k + 1, by omega, by go_num, ?_, HB2.out⟩, by simp [intOf]; omega⟩
      have h2 := HO2.out
      rw [List.append_assoc, ← marks_succ] at h2
      exact h2
    · have hk6 : k = 600 := by omega
      subst hk6
      obtain ⟨i22, hi22, hy0, hy1, hy2⟩ := info_parts info22
      obtain ⟨i3, hi3, hx0, hx1, hx2⟩ := info_parts info3
      obtain ⟨g, c, e7, hcap⟩ := own_new HO.out (by omega)
      subst e7
      obtain ⟨a0, k0, hv0⟩ := shape1 HRm.out.o0
      obtain ⟨a1, k1, hv1⟩ := shape1 HRm.out.o1
      subst hv0
      subst hv1
      have hR := HRm.out.lt
      have hBR := HRm.out.base
      have b0 := (HB.out.cell (p := ⟨R, 0, none⟩) hR).trans HRm.out.c0
      have b1 := (HB.out.cell (p := ⟨R, 1, none⟩) hR).trans HRm.out.c1
      have q0 := (HB.out.frozen (p := ⟨R, 0, none⟩) hR).trans HRm.out.f0
      have q1 := (HB.out.frozen (p := ⟨R, 1, none⟩) hR).trans HRm.out.f1
      have hRw : R < wr.heap.size := by omega
      have HO0 := Keep.own (Keep.below (bs := []) HB.out) HRm.out.o0 (by simp)
      have HO0' : Hid (wr.ownsRow B 23 1 (.slice a0 hs.length k0) hs.length (heads hs)) := HO0
      have HO1' : Hid (wr.ownsRow B 3 1 (.slice a1 hs.length k1) hs.length (lens hs)) := Keep.own (Keep.below (bs := []) HB.out) HRm.out.o1 (by simp)
      clear HO0
      have HR0 : Hid (R ∉ (Value.slice a0 hs.length k0).ownBlock.toList) := not_mem_of HRm.out.r0
      have HR1 : Hid (R ∉ (Value.slice a1 hs.length k1).ownBlock.toList) := not_mem_of HRm.out.r1
      have HD : Hid (∀ x, (Value.slice a1 hs.length k1).ownBlock = some x → x ∉ (Value.slice a0 hs.length k0).ownBlock.toList) := fun x hx => not_mem_of (fun e => HRm.out.d01 x e hx)
      have HDR : Hid (∀ x, (Value.slice a1 hs.length k1).ownBlock = some x → x ∉ [R]) := fun x hx => by simp; rintro rfl; exact HRm.out.r1 hx
      go_wp2_with (first | (at_builtin; refine wpList_app _ (by rfl) (.tmp 28) (.tmp 30) 30 (by rfl) B 23 i22 _ 1 24 Tryd.underlying30 hi22 hy0 hy1 hy2 rfl (by omega) (.slice a0 hs.length k0) hs.length (heads hs) (by rfl) (HO0'.out.alloc _) ⟨wr.heap.size, 0, none⟩ 1 1 [.slice (some ⟨g, 0, none⟩) (l.length + 600) c] (by rfl) (by rfl) (World.news_of_block (heap_alloc_new _ _)) (by intro u hu; simp at hu; subst hu; rfl) (by omega) (by unfold maxLen; omega) (by omega) (by simp; omega) (wr.heap.size + 1) (by simp) ?_; intro g2 c2 w2 hown2 hgr2 hat2 hlt2; have HX2 : Hid ((wr.alloc (.cells #[.slice (some ⟨g, 0, none⟩) (l.length + 600) c] 23)).grownBy w2 (Value.slice a0 hs.length k0).ownBlock ∧ w2.ownsRow B 23 1 (.slice (some ⟨g2, 0, none⟩) (hs.length + 1) c2) (hs.length + 1) (heads hs ++ [.slice (some ⟨g, 0, none⟩) (l.length + 600) c]) ∧ ((Value.slice a0 hs.length k0).ownBlock = some g2 ∨ g2 = wr.heap.size + 1)) := ⟨hgr2, hown2, hat2⟩; have K2 := keep_app hgr2; have d0 := (K2.cell (p := ⟨R, 0, none⟩) hRw HR0.out).trans b0; have d1 := (K2.cell (p := ⟨R, 1, none⟩) hRw HR0.out).trans b1; have m0 := (K2.frozen (p := ⟨R, 0, none⟩) hRw HR0.out).trans q0; have m1 := (K2.frozen (p := ⟨R, 1, none⟩) hRw HR0.out).trans q1; have hR2 : R < w2.heap.size := Nat.lt_of_lt_of_le hRw K2.size; have HO12 : Hid ((w2.setCell ⟨R, 0, none⟩ (.slice (some ⟨g2, 0, none⟩) (hs.length + 1) c2)).ownsRow B 3 1 (.slice a1 hs.length k1) hs.length (lens hs)) := (Keep.set w2 R 0 _).own (K2.own HO1'.out HD.out) HDR.out; clear hgr2 hown2 hat2 b0 b1 q0 q1 K2) | (at_builtin; refine wpList_app _ (by rfl) (.tmp 38) (.tmp 41) 31 (by rfl) B 3 i3 _ 1 8 Tryd.underlying31 hi3 hx0 hx1 hx2 rfl (by omega) (.slice a1 hs.length k1) hs.length (lens hs) (by rfl) (HO12.out.alloc _) ⟨w2.heap.size, 0, none⟩ 1 1 [.int .i64 l.length] (by rfl) (by rfl) (news_set _ _ _ _ _) (by intro u hu; simp at hu; subst hu; rfl) (by omega) (by unfold maxLen; omega) (by omega) (by simp; omega) (w2.heap.size + 1) (by simp) ?_; intro g3 c3 w3 hown3 hgr3 hat3 hlt3; have HX3 : Hid (((w2.setCell ⟨R, 0, none⟩ (.slice (some ⟨g2, 0, none⟩) (hs.length + 1) c2)).alloc (.cells #[.int .i64 l.length] 3)).grownBy w3 (Value.slice a1 hs.length k1).ownBlock ∧ w3.ownsRow B 3 1 (.slice (some ⟨g3, 0, none⟩) (hs.length + 1) c3) (hs.length + 1) (lens hs ++ [.int .i64 l.length]) ∧ ((Value.slice a1 hs.length k1).ownBlock = some g3 ∨ g3 = w2.heap.size + 1)) := ⟨hgr3, hown3, hat3⟩; have K4 := keep_app hgr3; have n1 := (K4.cell (p := ⟨R, 1, none⟩) (by simpa using hR2) HR1.out).trans ((World.cell?_setCell_other _ _ _ _ (by simp)).trans d1); have o1 : w3.frozen? ⟨R, 1, none⟩ = false := (K4.frozen (p := ⟨R, 1, none⟩) (by simpa using hR2) HR1.out).trans (by rw [World.frozen?_setCell]; exact m1); clear hgr3 hown3 hat3 K4))
      go_ret
      obtain ⟨x1, x2, x3⟩ := HX2.out
      obtain ⟨y1, y2, y3⟩ := HX3.out
      exact ⟨g, c, _, _, rfl, laid (n := l.length + 600) HRm.out HB.out HO.out rfl x1 x2 (by rcases x3 with h | h; exact .inl h.symm; exact .inr (by rw [h]; rfl)) y1 y2 (by rcases y3 with h | h; exact .inl h.symm; exact .inr (by rw [h]; rfl))⟩

end Rom
end Go.Proofs.YtdbiliigbinmfaaDoor
