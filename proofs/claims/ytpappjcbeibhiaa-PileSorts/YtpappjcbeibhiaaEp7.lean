import Derived.Test.YtpappjcbeibhiaaEp6
namespace Go.Proofs.Ytpappjcbeibhiaa
namespace Ehp
open Go.RowKit Laws Irw Erw
open Hp (swp swp_length swp_perm Ord Heapy Up Dn fore fore1 fore_lt fore_ge goes_drew goes_drewN above_any below_drewN)
set_option linter.unusedVariables false
set_option maxRecDepth 100000
set_option linter.unusedSimpArgs false

theorem undE : Try.prog.underlying 22 = some (.slice 28) := by kernel_rfl
set_option maxHeartbeats 2000000 in
/-- PUSH. -/
theorem pushE_any (t : Nat) (T : Nat → Nat) (w : World) (h B : Nat) (o : Bool) (l : List En) (x : En) (p : HeapE t T w h B o l) (hlen : l.length ≤ 10000000000) :
    Calls Try.prog 7 #[.pointer (some ⟨h, 0, none⟩), entV x] w fun e w' => e = .returned (.tuple #[]) ∧ PushIs (lessE o) t T w h B o l x w' := by
  obtain ⟨i0, hi0, hz0, hz1, hz2⟩ := info_parts infoE
  have HB1 : Hid (Below w.heap.size w (w.alloc (.cells #[.string x.1, .int .u64 x.2.1, .bool x.2.2.1, .string x.2.2.2] 28))) := (Below.refl _ _).alloc (Nat.le_refl _) _
  have HP : Hid (HeapE t T (w.alloc (.cells #[.string x.1, .int .u64 x.2.1, .bool x.2.2.1, .string x.2.2.2] 28)) h B o l) := p.below HB1.out
  obtain ⟨a, c, hc, ho, hi, _, hn⟩ := HP.out.form
  have HO : Hid (OwnE (t + 1) T (w.alloc (.cells #[.string x.1, .int .u64 x.2.1, .bool x.2.2.1, .string x.2.2.2] 28)) (.slice a l.length c) l) := ho
  have hlt := HP.out.dirs.dir.lth
  have hf := HP.out.free
  have b0 : (w.alloc (.cells #[.string x.1, .int .u64 x.2.1, .bool x.2.2.1, .string x.2.2.2] 28)).cell? ⟨w.heap.size, 0, none⟩ = some (.string x.1) := by simp
  have b1 : (w.alloc (.cells #[.string x.1, .int .u64 x.2.1, .bool x.2.2.1, .string x.2.2.2] 28)).cell? ⟨w.heap.size, 1, none⟩ = some (.int .u64 x.2.1) := by simp
  have b2 : (w.alloc (.cells #[.string x.1, .int .u64 x.2.1, .bool x.2.2.1, .string x.2.2.2] 28)).cell? ⟨w.heap.size, 2, none⟩ = some (.bool x.2.2.1) := by simp
  have b3 : (w.alloc (.cells #[.string x.1, .int .u64 x.2.1, .bool x.2.2.1, .string x.2.2.2] 28)).cell? ⟨w.heap.size, 3, none⟩ = some (.string x.2.2.2) := by simp
  have hmf : ∀ (fn : Fn) (first cap : Array Value) (w : World), (Instr.makeFunc fn first cap).run Try.prog w = .ok (.func fn first cap) w := fun _ _ _ _ => rfl
  clear p ho
  unfold entV
  go_enter Try.func7, Try.ntmps7
  generalize hW1 : w.alloc (.cells #[.string x.1, .int .u64 x.2.1, .bool x.2.2.1, .string x.2.2.2] 28) = W1 at *
  have HG1 : Hid (Below W1.heap.size W1 (W1.drew.alloc (.cells #[.string x.1, .int .u64 x.2.1, .bool x.2.2.1, .string x.2.2.2] 28))) := (Below.refl _ _).drew.alloc (Nat.le_refl _) _
  go_wp2
  go_region_law (first
    | (go_loud (refine step_appE _ (by rfl) (.tmp 8) (.tmp 10) 22 (by rfl) i0 undE hi0 hz0 hz1 hz2 (t + 1) T (.slice a l.length c) l (by simp [Act.eval, Act.put]) (HO.out.below HG1.out) (some ⟨W1.heap.size, 0, none⟩) 1 1 [x] (by simp [Act.eval, Act.put]) (by rfl) (by simp) isE_new (by simp; omega) ?_; intro a7 c7 T7 w7 hown7 hgo7 hat7; obtain ⟨gl, rfl⟩ := OwnE.blk hown7 (by simp); have hg' : Goes (· = t + 1) T W1 T7 w7 := (Goes.below HG1.out).trans hgo7; have hfin : Hid (HeapE t T7 (w7.setCell ⟨h, 1, none⟩ (.slice (some ⟨gl, 0, none⟩) (l.length + 1) c7)) h B o (l ++ [x]) ∧ Goes (fun x => x = t ∨ x = t + 1) T W1 T7 (w7.setCell ⟨h, 1, none⟩ (.slice (some ⟨gl, 0, none⟩) (l.length + 1) c7))) := HP.out.put hg' hown7; have hc7 : ∃ v0, w7.cell? ⟨h, 1, none⟩ = some v0 := ⟨_, (hg'.cell hlt (by rw [HP.out.tag]; omega)).trans hc⟩; obtain ⟨v0, hc7⟩ := hc7; have hf7 : w7.frozen? ⟨h, 1, none⟩ = false := (World.frozen?_of_block (a := ⟨h, 1, none⟩) (hg'.block h hlt (by rw [HP.out.tag]; omega))).trans hf; clear hg' hown7 hgo7 hat7)))
  all_goals (
    go_wp2_with (go_at_call 16; go_loud (obtain ⟨a8, c8, hc8, ho8, _⟩ := hfin.out.1.form; have hc9 : some (Value.slice a8 (l ++ [x]).length c8) = some (Value.slice (some ⟨gl, 0, none⟩) (l.length + 1) c7) := hc8.symm.trans (World.cell?_setCell_same _ _ _ hc7); simp only [Option.some.injEq, Value.slice.injEq] at hc9; obtain ⟨rfl, hcl, rfl⟩ := hc9; rw [hcl] at ho8 hc8; refine (riseE_any (t + 1) T7 _ h B o hfin.out.1.dirs gl (l.length + 1) c8 (l ++ [x]) ho8 hcl.symm (by simp) (by rw [hcl]; omega)).mono ?_; rintro e w9 ⟨rfl, l9, k1, k2, k3, k4⟩; have HF9 : Hid (PushIs (lessE o) t T w h B o l x w9) := ⟨T7, l9, hfin.out.1.turn hc8 k2 k1, (Goes.below HB1.out).trans (hfin.out.2.trans (k2.mono fun x hx => .inr hx)), k3, fun ho hh => k4 ho (by have := Up.push hh x; rw [hcl]; exact this)⟩; clear k1 k2 k3 k4 ho8 hc8 hcl))
    go_end0
    exact ⟨rfl, HF9.out⟩)

end Ehp
end Go.Proofs.Ytpappjcbeibhiaa
