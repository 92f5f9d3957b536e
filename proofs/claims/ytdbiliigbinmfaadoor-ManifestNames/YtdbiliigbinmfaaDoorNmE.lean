import Derived.Test.YtdbiliigbinmfaaDoorNmD
import Derived.Lib.ConvBytes
namespace Go.Proofs.YtdbiliigbinmfaaDoor
namespace Nms
open Go.RowKit Go.Sort CMath Byt Cod Laws
set_option linter.unusedVariables false
set_option linter.unusedSimpArgs false
set_option maxRecDepth 20000
/-- a text's bytes -/
def tb (s : ByteArray) : List Nat := s.data.toList.map UInt8.toNat
theorem tb_length (s : ByteArray) : (tb s).length = s.size := by simp [tb]
theorem tb_lt (s : ByteArray) : ∀ x ∈ tb s, x < 256 := by
  intro x hx
  obtain ⟨y, _, rfl⟩ := List.mem_map.1 hx
  exact UInt8.toNat_lt y
theorem bw_isB (w : World) (s : ByteArray) : IsB (Lib.bytesWorld w 5 s) (some ⟨w.heap.size, 0, none⟩) (tb s) := by
  refine ⟨fun _ => ⟨w.heap.size, 0, rfl, by rw [Lib.bytesWorld_size]; omega, fun i x hx => ?_⟩, tb_lt s⟩
  have hi : i < s.size := by
    have := (List.getElem?_eq_some_iff.1 hx).1
    rwa [tb_length] at this
  rw [Nat.zero_add, Lib.bytesWorld_cell w 5 s i hi]
  unfold tb at hx
  rw [List.getElem?_map] at hx
  have hl : i < s.data.toList.length := hi
  rw [List.getElem?_eq_getElem hl] at hx
  simp only [Option.map_some, Option.some.injEq] at hx
  have hi2 : i < s.data.size := hi
  rw [← hx]
  simp [List.getD, Array.getElem?_eq_getElem hi2]
set_option maxHeartbeats 1000000 in
theorem current_any (s : ByteArray) (w : World) (ht : Tab w) (hk : s.size + 14 ≤ 140737488355328) : Calls Tryd.prog 9 #[.string s] w fun e w' => ∃ v, e = .returned v ∧ Own 5 w.heap.size w' v (frame (tb s)) ∧ RowKit.Below w.heap.size w w' := by
  have hcv := Lib.run_convert_string_bytes (P := Tryd.prog) w 9 23 5 s (u := .string) (by kernel_rfl) (by kernel_rfl) (by kernel_rfl)
  have hb := Lib.bytesWorld_below w 5 s
  obtain ⟨c, hc⟩ : ∃ c, c = grownCap w s.size 0 5 := ⟨_, rfl⟩
  rw [← hc] at hcv
  have C := Lib.hid (frame_any (some ⟨w.heap.size, 0, none⟩) c s.size (tb s) (Lib.bytesWorld w 5 s) (bw_isB w s) (ht.below hb ht.lt) (fun e => by cases e) (by rw [tb_length]; omega) (tb_length s).symm)
  have HB := Lib.hid hb
  clear hb hc ht
  obtain ⟨W, hW⟩ : ∃ W, W = Lib.bytesWorld w 5 s := ⟨_, rfl⟩
  rw [← hW] at hcv C HB
  clear hW
  go_enter Tryd.func9, Tryd.ntmps9
  go_wp2_with (go_at_call 19; refine C.out.mono ?_; rintro e w1 ⟨v, rfl, hv, hb1⟩)
  go_ret
  exact ⟨v, rfl, hv.lower HB.out.size, bl_st HB.out hb1⟩
set_option maxHeartbeats 1000000 in
theorem rcurrent_any (s : ByteArray) (w : World) (hk : s.size + 14 ≤ 140737488355328) : Calls Tryd.prog 10 #[.string s] w fun e w' => ∃ v, e = .returned v ∧ Own 5 w.heap.size w' v (frame (tb s)) ∧ RowKit.Below w.heap.size w w' := by
  have hcv := Lib.run_convert_string_bytes (P := Tryd.prog) w 9 23 5 s (u := .string) (by kernel_rfl) (by kernel_rfl) (by kernel_rfl)
  have hb := Lib.bytesWorld_below w 5 s
  obtain ⟨c, hc⟩ : ∃ c, c = grownCap w s.size 0 5 := ⟨_, rfl⟩
  rw [← hc] at hcv
  have C := Lib.hid (refFrame_any (some ⟨w.heap.size, 0, none⟩) c s.size (tb s) (Lib.bytesWorld w 5 s) (bw_isB w s) (fun e => by cases e) (by rw [tb_length]; omega) (tb_length s).symm)
  have HB := Lib.hid hb
  clear hb hc
  obtain ⟨W, hW⟩ : ∃ W, W = Lib.bytesWorld w 5 s := ⟨_, rfl⟩
  rw [← hW] at hcv C HB
  clear hW
  go_enter Tryd.func10, Tryd.ntmps10
  go_wp2_with (go_at_call 20; refine C.out.mono ?_; rintro e w1 ⟨v, rfl, hv, hb1⟩)
  go_ret
  exact ⟨v, rfl, hv.lower HB.out.size, bl_st HB.out hb1⟩
end Nms
end Go.Proofs.YtdbiliigbinmfaaDoor
