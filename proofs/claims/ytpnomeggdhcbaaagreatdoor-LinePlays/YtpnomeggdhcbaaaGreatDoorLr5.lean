import Derived.Test.YtpnomeggdhcbaaaGreatDoorLr4
import Derived.Deep.RegionLaw
import Derived.Deep.Cut
namespace Go.Proofs.YtpnomeggdhcbaaaGreatDoor
namespace Lin
open Go.RowKit Go.Shelf Laws Irw
set_option linter.unusedVariables false
set_option maxRecDepth 100000

theorem HID {p : Prop} (h : p) : Hid p := h
/-- What a call to both lines leaves. -/
def PlayIs (t : Nat) (T : Nat → Nat) (w : World) (p q : Nat) (l : List Int) (w' : World) : Prop := ∃ T', LineAt t T' w' p l ∧ LineAt (t + 2) T' w' q l ∧ Goes (fun x => x = t ∨ x = t + 1 ∨ x = t + 2 ∨ x = t + 3) T w T' w'

set_option maxHeartbeats 8000000 in
theorem plays1 (t : Nat) (ht : 0 < t) (T : Nat → Nat) (w : World) (p q K : Nat) (l : List Int) (n mark : Int) (sec : Bool) (h1 : LineAt t T w p l) (h2 : LineAt (t + 2) T w q l) (hz : ∀ b, w.heap.size ≤ b → T b = 0) (hlen : l.length ≤ 100000000) :
    Calls Tryz.prog 5 #[.agg #[.pointer (some ⟨p, 0, none⟩), .pointer (some ⟨q, 0, none⟩)], .pointer (some ⟨K, 0, none⟩), .agg #[.int .i64 1, .int .i64 n, .bool sec], .int .i64 mark] w fun e w' => e = .returned (.bool true) ∧ PlayIs t T w p q (joinL l n) w' := by
  have hb1 : Below w.heap.size w ((w.alloc (.cells #[.pointer (some ⟨p, 0, none⟩), .pointer (some ⟨q, 0, none⟩)] 52)).alloc (.cells #[.int .i64 1, .int .i64 n, .bool sec] 54)) := ((Below.refl _ _).alloc (Nat.le_refl _) _).alloc (by simp) _
  have p0 : ((w.alloc (.cells #[.pointer (some ⟨p, 0, none⟩), .pointer (some ⟨q, 0, none⟩)] 52)).alloc (.cells #[.int .i64 1, .int .i64 n, .bool sec] 54)).cell? ⟨w.heap.size, 0, none⟩ = some (.pointer (some ⟨p, 0, none⟩)) := by simp
  have p1 : ((w.alloc (.cells #[.pointer (some ⟨p, 0, none⟩), .pointer (some ⟨q, 0, none⟩)] 52)).alloc (.cells #[.int .i64 1, .int .i64 n, .bool sec] 54)).cell? ⟨w.heap.size, 1, none⟩ = some (.pointer (some ⟨q, 0, none⟩)) := by simp
  have o0 : ((w.alloc (.cells #[.pointer (some ⟨p, 0, none⟩), .pointer (some ⟨q, 0, none⟩)] 52)).alloc (.cells #[.int .i64 1, .int .i64 n, .bool sec] 54)).cell? ⟨w.heap.size + 1, 0, none⟩ = some (.int .i64 1) := by simp
  have o1 : ((w.alloc (.cells #[.pointer (some ⟨p, 0, none⟩), .pointer (some ⟨q, 0, none⟩)] 52)).alloc (.cells #[.int .i64 1, .int .i64 n, .bool sec] 54)).cell? ⟨w.heap.size + 1, 1, none⟩ = some (.int .i64 n) := by simp
  have hs1 : ((w.alloc (.cells #[.pointer (some ⟨p, 0, none⟩), .pointer (some ⟨q, 0, none⟩)] 52)).alloc (.cells #[.int .i64 1, .int .i64 n, .bool sec] 54)).heap.size = w.heap.size + 2 := by simp
  have HL1 := HID (h1.below hb1)
  have HL2 := HID (h2.below hb1)
  have HB1 := HID hb1
  have HZ := HID hz
  obtain ⟨d, hd⟩ : ∃ d, decide (n ∉ l) = d := ⟨_, rfl⟩
  have HD := HID hd
  clear h1 h2 hb1 hz hd
  go_enter Tryz.func5, Tryz.ntmps5
  go_upto_region 1 with (fail)
  generalize (w.alloc (.cells #[.pointer (some ⟨p, 0, none⟩), .pointer (some ⟨q, 0, none⟩)] 52)).alloc (.cells #[.int .i64 1, .int .i64 n, .bool sec] 54) = W1 at *
  have HTG : Hid (∀ {T' : Nat → Nat} {W' : World}, Goes (fun x => x = t ∨ x = t + 1) T W1 T' W' → W'.cell? ⟨w.heap.size, 1, none⟩ = some (.pointer (some ⟨q, 0, none⟩)) ∧ W'.cell? ⟨w.heap.size + 1, 1, none⟩ = some (.int .i64 n)) := fun hg => by
    have z0 := HZ.out w.heap.size (by omega)
    have z1 := HZ.out (w.heap.size + 1) (by omega)
    exact ⟨(hg.cell (by omega) (by omega)).trans p1, (hg.cell (by omega) (by omega)).trans o1⟩
  have HC1 := HID (fun W (hW : Below W1.heap.size W1 W) => join_any t T W p l n (HL1.out.below hW) (by omega))
  go_wp2
  go_region_law (first
    | (go_simp; go_at_call 7; go_loud (refine (HC1.out _ (Below.refl _ _).drew).mono ?_; rintro e w2 ⟨rfl, T2, k1, k2⟩; rw [HD.out]; have k2' : Goes (fun x => x = t ∨ x = t + 1) T W1 T2 w2 := (Goes.below (Below.refl _ _).drew).trans k2; obtain ⟨pp1, oo1⟩ := HTG.out k2'; have HK1 := HID k1; have HK2 := HID k2'; clear k1 k2 k2'))
    | (go_simp; go_at_call 8; go_loud (refine (rjoin_any (t + 2) T2 w2 q l n (HL2.out.goes HK2.out (by omega) (by omega)) (by omega)).mono ?_; rintro e w3 ⟨rfl, T3, j1, j2⟩; rw [HD.out]; have HF : Hid (PlayIs t T w p q (joinL l n) w3) := ⟨T3, HK1.out.goes j2 (by omega) (by omega), j1, (Goes.below HB1.out).trans ((HK2.out.mono (by omega)).trans (j2.mono (by omega)))⟩; clear j1 j2)))
  all_goals (
    go_wp2
    go_ret
    refine ⟨?_, HF.out⟩
    first | rfl | simp | (cases d <;> rfl))

end Lin
end Go.Proofs.YtpnomeggdhcbaaaGreatDoor
