import Derived.Test.YtpappjcbeibhiaaEp9a
namespace Go.Proofs.Ytpappjcbeibhiaa
namespace Ehp
open Go.RowKit Laws Irw Erw
open Hp (swp swp_length swp_perm Ord Heapy Up Dn fore fore1 fore_lt fore_ge goes_drew goes_drewN above_any below_drewN cutL cutL_length cutL_perm)
set_option linter.unusedVariables false
set_option maxRecDepth 100000
set_option linter.unusedSimpArgs false

set_option maxHeartbeats 4000000 in
/-- POP. -/
theorem popE_some (t : Nat) (T : Nat → Nat) (w : World) (h B : Nat) (o : Bool) (l : List En) (p : HeapE t T w h B o l) (h0 : 0 < l.length) (hlen : l.length ≤ 10000000000) (ht : 0 < t) (hT : ∀ b, w.heap.size ≤ b → T b = 0) :
    Calls Try.prog 8 #[.pointer (some ⟨h, 0, none⟩)] w fun e w' => e = .returned (.tuple #[.agg #[.string (l.getD 0 ez).1, .int .u64 (l.getD 0 ez).2.1, .bool (l.getD 0 ez).2.2.1, .string (l.getD 0 ez).2.2.2], .bool true]) ∧ PopIs (lessE o) t T w h B o l w' := by
  have HB1 : Hid (Below w.heap.size w (w.alloc zcells)) := (Below.refl _ _).alloc (Nat.le_refl _) _
  have b0 : (w.alloc zcells).cell? ⟨w.heap.size, 0, none⟩ = some (.string ⟨#[]⟩) := by simp
  have b1 : (w.alloc zcells).cell? ⟨w.heap.size, 1, none⟩ = some (.int .u64 0) := by simp
  have b2 : (w.alloc zcells).cell? ⟨w.heap.size, 2, none⟩ = some (.bool false) := by simp
  have b3 : (w.alloc zcells).cell? ⟨w.heap.size, 3, none⟩ = some (.string ⟨#[]⟩) := by simp
  have hs1 : (w.alloc zcells).heap.size = w.heap.size + 1 := by simp
  have hf : ∀ j, (w.alloc zcells).frozen? ⟨w.heap.size, j, none⟩ = false := fun j => by simp
  have HP0 : Hid (HeapE t T w h B o l) := p
  have HHT : Hid (∀ b, w.heap.size ≤ b → T b = 0) := hT
  clear p hT
  go_enter Try.func8, Try.ntmps8
  go_wp2_with fail
  refine (topE_some t T _ h B o l (HP0.out.below HB1.out) h0 (by omega)).mono ?_
  rintro e w2 ⟨rfl, hb⟩
  generalize w.alloc zcells = W1 at *
  have HX : Hid (l.getD 0 ez = l.getD 0 ez) := rfl
  obtain ⟨x, hx⟩ : ∃ x, x = l.getD 0 ez := ⟨_, rfl⟩
  have HXX : Hid (x = l.getD 0 ez) := hx
  rw [← hx]
  clear hx HX
  obtain ⟨xk, xs, xd, xv⟩ := x
  dsimp only
  have hb3 : Below w2.heap.size w2 (w2.alloc (.cells #[.string xk, .int .u64 xs, .bool xd, .string xv] 28)) := (Below.refl _ _).alloc (Nat.le_refl _) _
  have e0 : (w2.alloc (.cells #[.string xk, .int .u64 xs, .bool xd, .string xv] 28)).cell? ⟨w2.heap.size, 0, none⟩ = some (.string xk) := by simp
  have e1 : (w2.alloc (.cells #[.string xk, .int .u64 xs, .bool xd, .string xv] 28)).cell? ⟨w2.heap.size, 1, none⟩ = some (.int .u64 xs) := by simp
  have e2 : (w2.alloc (.cells #[.string xk, .int .u64 xs, .bool xd, .string xv] 28)).cell? ⟨w2.heap.size, 2, none⟩ = some (.bool xd) := by simp
  have e3 : (w2.alloc (.cells #[.string xk, .int .u64 xs, .bool xd, .string xv] 28)).cell? ⟨w2.heap.size, 3, none⟩ = some (.string xv) := by simp
  have hs3 : (w2.alloc (.cells #[.string xk, .int .u64 xs, .bool xd, .string xv] 28)).heap.size = w2.heap.size + 1 := by simp
  obtain ⟨W3, hW3⟩ : ∃ W3, w2.alloc (.cells #[.string xk, .int .u64 xs, .bool xd, .string xv] 28) = W3 := ⟨_, rfl⟩
  rw [hW3] at hb3 e0 e1 e2 e3 hs3
  have hs2 := hb.size
  have hb13 : Below W1.heap.size W1 W3 := hb.trans (hb3.mono hs2)
  have hlt : w.heap.size < W1.heap.size := by omega
  have hR3 : ∀ j, W3.cell? ⟨w.heap.size, j, none⟩ = W1.cell? ⟨w.heap.size, j, none⟩ := fun j => hb13.cell (p := ⟨w.heap.size, j, none⟩) hlt
  have hRf : ∀ j, W3.frozen? ⟨w.heap.size, j, none⟩ = false := fun j => (hb13.frozen (p := ⟨w.heap.size, j, none⟩) hlt).trans (hf j)
  have HB3 : Hid (Below w.heap.size w W3) := HB1.out.trans (hb13.mono (by omega))
  have HP3 : Hid (HeapE t T W3 h B o l) := HP0.out.below HB3.out
  have r0 := (hR3 0).trans b0
  have r1 := (hR3 1).trans b1
  have r2 := (hR3 2).trans b2
  have r3 := (hR3 3).trans b3
  have hRL : w.heap.size < w2.heap.size := by omega
  clear hb hb3 hb13 hR3 b0 b1 b2 b3 hf HB1
  obtain ⟨a, c, hc, ho, hi, hcap, hn⟩ := HP3.out.form
  obtain ⟨gl, rfl⟩ := OwnE.blk ho h0
  obtain ⟨m, hm⟩ : ∃ m, l.length = m + 1 := ⟨l.length - 1, by omega⟩
  have hr := rowOf ho h0
  obtain ⟨c0, c1, c2, c3⟩ := at0 hr h0
  simp only [Nat.zero_mul, Nat.zero_add] at c0 c1 c2 c3
  obtain ⟨m0, m1, m2, m3⟩ := at0 hr (i := m) (by omega)
  rw [hm] at hc ho hcap
  have HO : Hid (OwnE (t + 1) T W3 (.slice (some ⟨gl, 0, none⟩) (m + 1) c) l) := ho
  have HM : Hid (l.length = m + 1) := hm
  have hlth := HP3.out.dirs.dir.lth
  have hfh := HP3.out.free
  have hTg : T gl = t + 1 := ho.2 gl rfl
  have hTh : T h = t := HP3.out.tag
  have hne : ¬ gl = h := by rintro rfl; omega
  have hne' : ¬ h = gl := fun e => hne e.symm
  have hfz := fun q => ho.frozen q
  have hT1 : T w.heap.size = 0 := HHT.out _ (Nat.le_refl _)
  have hT2 : T w2.heap.size = 0 := HHT.out _ (by omega)
  have hmf : ∀ (fn : Fn) (first cap : Array Value) (w : World), (Instr.makeFunc fn first cap).run Try.prog w = .ok (.func fn first cap) w := fun _ _ _ _ => rfl
  have q8 : IntKind.i64.wrap (m : Int) = (m : Int) := IntWalk.i64_in _ (by have := HM.out; omega)
  have q1 : IntKind.i64.wrap ((m : Int) + 1 - 1) = (m : Int) := by rw [IntWalk.i64_in _ (by omega)]; omega
  have q2 : (m : Int) < (m : Int) + 1 := by omega
  have q3 : (0 : Int) < (m : Int) + 1 := by omega
  have q4 : (m : Int) ≤ (c : Int) := by omega
  have q5 : ¬ c = m := by omega
  have q6 : ¬ c ≤ m := by omega
  have q7 : wrap64 (m : Int) = (m : Int) := by unfold wrap64; omega
  clear ho hr hm h0
  generalize hy : l.getD m ez = y at *
  have HY : Hid (l.getD m ez = y) := hy
  clear hy
  obtain ⟨yk, ys, yd, yv⟩ := y
  dsimp only at m0 m1 m2 m3
  go_wp2
  try rw [hW3]
  clear hW3
  have HQ : Hid (wrap64 (m : Int) = (m : Int) ∧ IntKind.i64.wrap (m : Int) = (m : Int) ∧ IntKind.i64.wrap ((m : Int) + 1 - 1) = (m : Int)) := ⟨q7, q8, q1⟩
  clear q1 q7 q8
  have HCut : Hid ((l.set 0 (yk, ys, yd, yv)).take m = cutL ez l) := by unfold cutL; rw [HM.out, Nat.add_sub_cancel, HY.out]; rfl
  have HSK : Hid (∀ W, DirsE (t + 1) T W h B o → OwnE (t + 1) T W (.slice (some ⟨gl, 0, none⟩) m c) (cutL ez l) → Calls Try.prog 19 #[.slice (some ⟨gl, 0, none⟩) m c, .func (.func 17) #[.pointer (some ⟨h, 0, none⟩)] #[]] W fun e w' => e = .returned (.tuple #[]) ∧ SinkIs (lessE o) (t + 1) T W (.slice (some ⟨gl, 0, none⟩) m c) (cutL ez l) w') := fun W hd hW => sinkE_all (t + 1) T W h B o hd gl m c _ hW (by rw [cutL_length]; omega)
  obtain ⟨w6, hcl, HX6, hc6, hf6⟩ := clear_last t T W3 gl m c h l HO.out HM.out hTg hTh hlth hc hfh yk ys yd yv HCut.out
  have HFIN : Hid (HeapE t T (w6.setCell ⟨h, 1, none⟩ (.slice (some ⟨gl, 0, none⟩) m c)) h B o (cutL ez l) ∧ Goes (fun x => x = t ∨ x = t + 1) T W3 T (w6.setCell ⟨h, 1, none⟩ (.slice (some ⟨gl, 0, none⟩) m c))) := HP3.out.put HX6.out.2 HX6.out.1
  have HPM : Hid ((l.getD 0 ez :: cutL ez l).Perm l) := cutL_perm ez l (by rw [HM.out]; omega)
  have HC6 : Hid ((w6.setCell ⟨h, 1, none⟩ (.slice (some ⟨gl, 0, none⟩) m c)).cell? ⟨h, 1, none⟩ = some (.slice (some ⟨gl, 0, none⟩) m c)) := World.cell?_setCell_same _ _ _ hc6
  have HOW : Hid (OwnE (t + 1) T (w6.setCell ⟨h, 1, none⟩ (.slice (some ⟨gl, 0, none⟩) m c)) (.slice (some ⟨gl, 0, none⟩) m c) (cutL ez l)) := HX6.out.1.goes (Goes.setCell (t := (· = t)) (T := T) (p := h) hTh) (by omega)
  have hL3 : w2.heap.size < W3.heap.size := by omega
  have hR3' : w.heap.size < W3.heap.size := by omega
  have HF7 : Hid (∀ w7, Goes (fun x => x = t ∨ x = t + 1) T W3 T w7 → (w7.cell? ⟨w2.heap.size, 0, none⟩ = some (.string xk) ∧ w7.cell? ⟨w2.heap.size, 1, none⟩ = some (.int .u64 xs) ∧ w7.cell? ⟨w2.heap.size, 2, none⟩ = some (.bool xd) ∧ w7.cell? ⟨w2.heap.size, 3, none⟩ = some (.string xv)) ∧ (w7.cell? ⟨w.heap.size, 0, none⟩ = some (.string ⟨#[]⟩) ∧ w7.cell? ⟨w.heap.size, 1, none⟩ = some (.int .u64 0) ∧ w7.cell? ⟨w.heap.size, 2, none⟩ = some (.bool false) ∧ w7.cell? ⟨w.heap.size, 3, none⟩ = some (.string ⟨#[]⟩)) ∧ ∀ j, w7.frozen? ⟨w.heap.size, j, none⟩ = false) := fun w7 g7 => by
    have z2 : ¬ (T w2.heap.size = t ∨ T w2.heap.size = t + 1) := by omega
    have z1 : ¬ (T w.heap.size = t ∨ T w.heap.size = t + 1) := by omega
    exact ⟨⟨(g7.cell hL3 z2).trans e0, (g7.cell hL3 z2).trans e1, (g7.cell hL3 z2).trans e2, (g7.cell hL3 z2).trans e3⟩, ⟨(g7.cell hR3' z1).trans r0, (g7.cell hR3' z1).trans r1, (g7.cell hR3' z1).trans r2, (g7.cell hR3' z1).trans r3⟩, fun j => (World.frozen?_of_block (a := ⟨w.heap.size, j, none⟩) (g7.block _ hR3' z1)).trans (hRf j)⟩
  have hRLn : ¬ w.heap.size = w2.heap.size := by omega
  have hRLn' : ¬ w2.heap.size = w.heap.size := by omega
  clear e0 e1 e2 e3 r0 r1 r2 r3 hRf HO
  have hc4 : ((((W3.setCell ⟨gl, 0, none⟩ (.string yk)).setCell ⟨gl, 1, none⟩ (.int .u64 ys)).setCell ⟨gl, 2, none⟩ (.bool yd)).setCell ⟨gl, 3, none⟩ (.string yv)).drew.cell? ⟨h, 1, none⟩ = some (.slice (some ⟨gl, 0, none⟩) (m + 1) c) := ((goes_drew (goes4 (w := W3) (i := 0) (e := (yk, ys, yd, yv)) hTg)).cell hlth (by rw [hTh]; omega)).trans hc
  have hmB : (m : Int) ≤ 10000000000 := by have := HM.out; omega
  go_region
  generalize ((((W3.setCell ⟨gl, 0, none⟩ (.string yk)).setCell ⟨gl, 1, none⟩ (.int .u64 ys)).setCell ⟨gl, 2, none⟩ (.bool yd)).setCell ⟨gl, 3, none⟩ (.string yv)).drew = W4 at *
  clear c0 c1 c2 c3 m0 m1 m2 m3 hc hfz
  go_wp2_with (first
    | (simp only [hcl])
    | (go_at_call 19; go_loud (refine (HSK.out _ HFIN.out.1.dirs HOW.out).mono ?_; rintro e w7 ⟨rfl, l9, k1, k2, k3, k4⟩; obtain ⟨⟨f0, f1, f2, f3⟩, ⟨g0, g1, g2, g3⟩, hf7⟩ := HF7.out w7 (HFIN.out.2.trans (k2.mono fun x hx => .inr hx)); have HF9 : Hid (PopIs (lessE o) t T w h B o l w7)   := ⟨l9, HFIN.out.1.turn HC6.out k2 k1, (Goes.below HB3.out).trans (HFIN.out.2.trans (k2.mono fun x hx => .inr hx)), (List.Perm.cons _ k3).trans HPM.out, fun ho hh => k4 ho (Dn.pop hh)⟩; clear k1 k2 k3 k4)))
  have hs7 : w.heap.size < w7.heap.size := World.block_lt_of_cell? w7 _ g0
  refine bodyPost_ret (v := .tuple #[.agg #[.string xk, .int .u64 xs, .bool xd, .string xv], .bool true]) ?_ rfl ⟨by rw [← HXX.out], ?_⟩
  · simp [results, Try.results8, go_sem, g0, g1, g2, g3, hs7]
  · exact (((HF9.out.setR hT1 ht (Nat.le_refl _) 0 _).setR hT1 ht (Nat.le_refl _) 1 _).setR hT1 ht (Nat.le_refl _) 2 _).setR hT1 ht (Nat.le_refl _) 3 _

end Ehp
end Go.Proofs.Ytpappjcbeibhiaa
