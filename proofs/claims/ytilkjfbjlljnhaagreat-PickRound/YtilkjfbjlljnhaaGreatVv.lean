import Derived.Test.YtilkjfbjlljnhaaGreatVu
import Derived.Shelf.Slices.Clone
import Derived.Ground.Names2Prog
namespace Go.Proofs
open Go.Shelf Go.RowKit Go.Lib Go.Sort
shelf_lay Lays2.n16 Nm2 16 at Tryz as Tryz.cloneS
namespace YtilkjfbjlljnhaaGreat
namespace Vr
open Go.Shelf Go.RowKit Go.Lib Go.Sort Go.Maps Go.ChangeMaps Go.MapKept Laws Irw Crw
set_option linter.unusedVariables false
set_option linter.unusedSimpArgs false
set_option maxRecDepth 20000
set_option maxHeartbeats 1000000 in
theorem sort64_nil (w : World) : Calls Tryz.prog 63 #[.slice none 0 0] w fun e w' => e = .returned (.tuple #[]) ∧ w' = w := by
  have HI : Hid (Calls Tryz.prog 92 #[.slice none 0 0, .int .i64 0, .int .i64 0] w fun e w' => e = .returned (.tuple #[]) ∧ w' = w) := by
    go_enter Tryz.func92, Tryz.ntmps92
    go_wp2
    go_loopw [6] (fun i wr => i = .int .i64 1 ∧ wr = w) (fun _ _ => 0)
    case atStart => exact ⟨rfl, rfl⟩
    case round =>
      obtain ⟨rfl, rfl⟩ := hrel
      go_wp2
      go_end0
      exact ⟨rfl, rfl⟩
  have HP : Hid (∀ x : Int, Calls Tryz.prog 82 #[.slice none 0 0, .int .i64 0, .int .i64 0, .int .i64 x] w fun e w' => e = .returned (.tuple #[]) ∧ w' = w) := fun x => by
    go_enter Tryz.func82, Tryz.ntmps82
    go_wp2
    go_loopw [1, 2] (fun a b wr => a = .int .i64 0 ∧ b = .int .i64 0 ∧ wr = w) (fun _ _ _ => 0)
    case atStart => exact ⟨rfl, rfl, rfl⟩
    case round =>
      obtain ⟨rfl, rfl, rfl⟩ := hrel
      go_wp2_with (go_at_call 92; go_loud (refine HI.out.mono ?_; rintro e w1 ⟨rfl, hw⟩; have hw := hw.symm; subst hw))
      refine bodyPost_ret (results_none rfl _ _ _) rfl ?_
      exact ⟨rfl, rfl⟩
  have hlen : Calls Tryz.prog 83 #[.int .u64 0] w fun e w' => (∃ x : Int, e = .returned (.int .i64 x)) ∧ w' = w := (Any.bits_Len Tryz.bitsLen 0 w (by omega) (by omega)).mono fun _ _ ⟨he, hw⟩ => ⟨⟨_, he⟩, hw⟩
  go_enter Tryz.func63, Tryz.ntmps63
  go_wp2_with (first
    | (go_at_call 83; go_loud (refine hlen.mono ?_; rintro e w1 ⟨⟨x, rfl⟩, hw⟩; have hw := hw.symm; subst hw))
    | (go_at_call 82; go_loud (refine (HP.out x).mono ?_; rintro e w1 ⟨rfl, hw⟩; have hw := hw.symm; subst hw)))
  go_end0
  exact ⟨rfl, rfl⟩
set_option maxHeartbeats 1000000 in
theorem find_nil (sb vb : Nat) (u ps m : Value) (w : World) (h : Zb w sb [u, .slice none 0 0, ps, m]) : Calls Tryz.prog 61 #[.pointer (some ⟨sb, 0, none⟩), .pointer (some ⟨vb, 0, none⟩)] w fun e w' => e = .returned (.int .i64 (-1)) ∧ RowKit.Below w.heap.size w w' := by
  have HI : Hid (∀ (W : World) (f : Value), Calls Tryz.prog 79 #[.slice none 0 0, f] W fun e w' => e = .returned (.int .i64 (-1)) ∧ w' = W) := fun W f => by
    go_enter Tryz.func79, Tryz.ntmps79
    go_wp2
    go_loopw [8] (fun i wr => i = .int .i64 0 ∧ wr = W) (fun _ _ => 0)
    case atStart => exact ⟨rfl, rfl⟩
    case round =>
      obtain ⟨rfl, rfl⟩ := hrel
      go_wp2
      go_ret
      exact ⟨rfl, rfl⟩
  have g1 := (h.below ((Below.refl _ _).alloc (Nat.le_refl _) (Obj.cells #[.pointer (some ⟨vb, 0, none⟩)] 29))).2.1 1 _ rfl
  go_enter Tryz.func61, Tryz.ntmps61
  go_wp2_with (go_at_call 79; go_loud (refine (HI.out _ _).mono ?_; rintro e w1 ⟨rfl, rfl⟩))
  go_ret
  exact ⟨rfl, (Below.refl _ _).alloc (Nat.le_refl _) _⟩
set_option maxHeartbeats 1000000 in
theorem recount_any {T : Nat → Nat} {w : World} {sb vb mb m : Nat} {D : Dat} {ps : Sv} {V : Lv} (hts : T sb = 1) (htm : T mb = 2) (hbox : Zb w sb [.pointer (some ⟨vb, 0, none⟩), .slice none 0 0, svV ps, .map (some mb)]) (hv : VT T w vb V) (hm : OwnM w mb m D) (hno : NumOk V) :
    Calls Tryz.prog 62 #[.pointer (some ⟨sb, 0, none⟩)] w fun e w' => CtIs T w mb (nums V) e w' := by
  obtain ⟨w1, hr, hc1, hg1⟩ := clear_run htm hm
  have hbox1 := hbox.goes hg1 (by rw [hts]; decide)
  have c3 := hbox.2.1 3 _ rfl
  have d0 := hbox1.2.1 0 _ rfl
  have HC : Hid (Calls Tryz.prog 81 #[.pointer (some ⟨sb, 0, none⟩), .pointer (some ⟨vb, 0, none⟩)] w1 fun e w' => CtIs T w1 mb (nums V) e w') := by
    have := countTables_any (ns := []) hts hbox1 (hv.goes hg1 (by decide)) hc1 hno (Nat.zero_le _)
    rw [List.nil_append] at this
    exact this
  have HG : Hid (Goes (· = 2) T w T w1 ∧ T sb = 1 ∧ Zb w1 sb [.pointer (some ⟨vb, 0, none⟩), .slice none 0 0, svV ps, .map (some mb)]) := ⟨hg1, hts, hbox1⟩
  clear hc1 hg1 hbox1 hbox hv hm hno
  go_enter Tryz.func62, Tryz.ntmps62
  go_upto_region 2 with (go_at_call 81; go_loud (refine HC.out.mono ?_; rintro e w2 ⟨rfl, hg2, hc2⟩; have HX : Hid (Goes (· = 2) T w1 T w2 ∧ CAt T w2 2 mb (nums V)) := ⟨hg2, hc2⟩; clear hg2 hc2))
  have e1 := (HG.out.2.2.goes HX.out.1 (by rw [HG.out.2.1]; decide)).2.1 1 _ rfl
  go_wp2
  go_loopw [19] (fun i wr => i = .int .i64 0 ∧ wr = w2) (fun _ _ => 0)
  case atStart => exact ⟨rfl, rfl⟩
  case round =>
    obtain ⟨rfl, rfl⟩ := hrel
    go_wp2
    go_end0
    exact ⟨rfl, HG.out.1.trans HX.out.1, HX.out.2⟩
end Vr
end YtilkjfbjlljnhaaGreat
end Go.Proofs
