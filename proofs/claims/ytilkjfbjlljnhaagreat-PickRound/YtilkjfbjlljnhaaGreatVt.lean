import Derived.Test.YtilkjfbjlljnhaaGreatVs
namespace Go.Proofs.YtilkjfbjlljnhaaGreat
namespace Vr
open Go.Shelf Go.RowKit Go.Lib Go.Sort Go.Maps Go.ChangeMaps Go.MapKept Laws Irw Crw
set_option linter.unusedVariables false
set_option linter.unusedSimpArgs false
set_option maxRecDepth 20000
theorem mem_nums {V : Lv} {l : List Tb} {t : Tb} (hl : l ∈ V) (ht : t ∈ l) : t.no ∈ nums V := List.mem_map_of_mem (List.mem_flatten.2 ⟨l, hl, ht⟩)
theorem fits_of {V : Lv} (h5 : V.length ≤ 5) (h : (nums V).length ≤ 1000000) : Fits V := ⟨h5, fun l hl => by
  obtain ⟨i, hi, rfl⟩ := List.getElem_of_mem hl
  exact Nat.le_trans (level_le (List.getElem?_eq_getElem hi)) h⟩
theorem bring_cnt : ∀ {V V' : Lv} {l : List Pi}, bring V l = .ok V' → (nums V').length = (nums V).length + l.length
  | V, V', [], h => by simp [bring] at h; rw [h]; rfl
  | V, V', p :: r, h => by
    rw [bring_cons] at h
    split at h
    · rename_i h1
      split at h
      · cases h
      · split at h
        · cases h
        · have := bring_cnt h
          rw [this, (nums_modify (by omega)).length_eq, List.length_append]
          simp
          omega
    · cases h
theorem ordered_cnt (V : Lv) : (nums (ordered V)).length = (nums V).length := ((flatten_ordered V).map Tb.no).length_eq
/-- what a draft has become -/
theorem DAt.ver {w0 : World} {T : Nat → Nat} {w : World} {db mb lb n c : Nat} {V : Lv} {ns : List Nat} (h : DAt w0 T w db mb (some ⟨lb, 0, none⟩, n, c) V ns) (hf : Fits V) (ty : TypeId) : VT (lowT w0.heap.size) (w.alloc (Obj.cells #[.slice (some ⟨lb, 0, none⟩) n c] ty)) w.heap.size V := by
  have hb1 : RowKit.Below w.heap.size w (w.alloc (Obj.cells #[.slice (some ⟨lb, 0, none⟩) n c] ty)) := (Below.refl _ _).alloc (Nat.le_refl _) _
  have hn := h.len
  have hlow : ∀ b, b < w.heap.size → T b ≠ 0 → lowT w0.heap.size b = 0 := fun b _ hT => lowT_of (by
    rcases Nat.lt_or_ge b w0.heap.size with hb | hb
    · exact absurd (h.old.zero b (.inl hb)) hT
    · exact hb)
  obtain ⟨vs, l1, l2, l3⟩ := h.lvl
  have key : ∀ {α : Type} {K : Knd α} {s : Sv} {x : List α} {t : Nat}, t ≠ 0 → OwnK K t T w (svV s) x → Isk K (lowT w0.heap.size) (w.alloc (Obj.cells #[.slice (some ⟨lb, 0, none⟩) n c] ty)) s x := by
    intro α K s x u hu ho
    obtain ⟨o1, o2, o3, o4, o5, o6⟩ := OwnK.sk ho
    refine ⟨o2.below hb1, o1, o4, o3, o5, fun b off e => ?_⟩
    obtain ⟨q1, q2⟩ := o6 b off e
    exact ⟨hlow b q2 (by rw [q1]; exact hu), Nat.lt_of_lt_of_le q2 hb1.size⟩
  refine ⟨hf, lowT_of h.old.below.size, ⟨#[.slice (some ⟨lb, 0, none⟩) n c], ty, by show (w.heap.push _)[w.heap.size]? = _; rw [Array.getElem?_push, if_pos rfl]⟩, (some ⟨lb, 0, none⟩, n, c), Zb.new w #[.slice (some ⟨lb, 0, none⟩) n c] ty, hn, vs, l2, key (by omega) l1, fun i v l hv hl => key (by omega) (l3 i v l hv hl)⟩
/-- what edited answers -/
def EdIs (w : World) (V : Lv) (l : List Pi) (e : Ending) (w' : World) : Prop := RowKit.Below w.heap.size w w' ∧
  match edit V l with
  | .error x => e = .returned (.tuple #[.pointer none, .int .i64 x]) ∧ x ≠ 0
  | .ok V' => ∃ nb, e = .returned (.tuple #[.pointer (some ⟨nb, 0, none⟩), .int .i64 0]) ∧ VT (lowT w.heap.size) w' nb V'
theorem edit_bring {V : Lv} {l : List Pi} {x : Int} (h : bring V l = .error x) : edit V l = .error x := by
  unfold edit; rw [h]
theorem edit_order {V V1 : Lv} {l : List Pi} (h : bring V l = .ok V1) (ho : ((V1.drop 1).map srt).any ovl = true) : edit V l = .error eOrder := by
  unfold edit; rw [h]; dsimp only; rw [if_pos ho]
theorem edit_ok {V V1 : Lv} {l : List Pi} (h : bring V l = .ok V1) (ho : ¬ ((V1.drop 1).map srt).any ovl = true) : edit V l = .ok (ordered V1) := by
  unfold edit; rw [h]; dsimp only; rw [if_neg ho]
theorem bring_ne0 : ∀ {V : Lv} {l : List Pi} {x : Int}, bring V l = .error x → x ≠ 0
  | V, [], x, h => by simp [bring] at h
  | V, p :: r, x, h => by
    rw [bring_cons] at h
    split at h
    · split at h
      · cases h; decide
      · split at h
        · cases h; decide
        · exact bring_ne0 h
    · cases h; decide
set_option maxHeartbeats 4000000 in
theorem edited_any (vb : Nat) (V : Lv) (w : World) (x y z : Int) (ia : Option Addr) (ic : Nat) (pa : Option Addr) (pl pc : Nat) (l : List Pi) (h : VAt w vb V) (hn : NumOk V) (hh : Half V) (h2 : 2 ≤ V.length) (hsm : (nums V).length + l.length ≤ 1000000) (hl : Ls kPi w (ia, l.length, ic) l) (hp : PiOk l) :
    Calls Tryz.prog 38 #[.pointer (some ⟨vb, 0, none⟩), .agg #[.int .u64 x, .int .u64 y, .int .u64 z, .slice none 0 0, .slice ia l.length ic, .slice pa pl pc]] w fun e w' => EdIs w V l e w' := by
  obtain ⟨W, hW⟩ : ∃ W, w.alloc (Obj.cells #[.int .u64 x, .int .u64 y, .int .u64 z, .slice none 0 0, .slice ia l.length ic, .slice pa pl pc] 67) = W := ⟨_, rfl⟩
  have HW : Hid (RowKit.Below w.heap.size w W ∧ Zb W w.heap.size [.int .u64 x, .int .u64 y, .int .u64 z, .slice none 0 0, .slice ia l.length ic, .slice pa pl pc]) := by
    rw [← hW]
    exact ⟨(Below.refl _ _).alloc (Nat.le_refl _) _, Zb.new _ _ _⟩
  have HV : Hid (VAt w vb V ∧ NumOk V ∧ Half V ∧ V.length ≤ 5 ∧ Ls kPi w (ia, l.length, ic) l ∧ PiOk l) := ⟨h, hn, hh, h.1.1, hl, hp⟩
  have hv5 := h.1.1
  have HC : Hid (Calls Tryz.prog 57 #[.pointer (some ⟨vb, 0, none⟩)] W fun e w' => DrIs W V e w') := draft_any vb V W (h.below HW.out.1) hn
  clear h hn hh hl hp
  go_enter Tryz.func38, Tryz.ntmps38
  go_upto_region 2 with (go_at_call 57; go_loud ((try rw [hW]); refine HC.out.mono ?_; rintro e w2 ⟨T, db, mb, lb, rfl, hd⟩; have HD : Hid (DAt W T w2 db mb (some ⟨lb, 0, none⟩, V.length, V.length) V (nums V)) := hd; clear hd))
  clear hW HC
  obtain ⟨bx, hbx⟩ : ∃ b, w.heap.size = b := ⟨_, rfl⟩
  rw [hbx]
  have HZ : Hid (Zb w2 bx [.int .u64 x, .int .u64 y, .int .u64 z, .slice none 0 0, .slice ia l.length ic, .slice pa pl pc]) := by rw [← hbx]; exact HW.out.2.below HD.out.old.below
  have z3 := HZ.out.2.1 3 _ rfl
  have HT : Hid (Calls Tryz.prog 58 #[.pointer (some ⟨db, 0, none⟩), .slice none 0 0] w2 fun e w' => e = .returned (.int .i64 0) ∧ DAt W T w' db mb (some ⟨lb, 0, none⟩, V.length, V.length) V (nums V)) := takeOut_nil HD.out HV.out.1.1 (fun l' hl' t ht => ⟨HV.out.2.1 l' hl' t ht, mem_nums hl' ht⟩)
  have HBX : Hid (bx < W.heap.size ∧ w.heap.size = bx) := ⟨by rw [← hbx]; exact HW.out.2.1, hbx⟩
  clear hbx
  go_upto_region 5 with (go_at_call 58; go_loud (refine HT.out.mono ?_; rintro e w3 ⟨rfl, hd⟩; have HD3 : Hid (DAt W T w3 db mb (some ⟨lb, 0, none⟩, V.length, V.length) V (nums V)) := hd; clear hd))
  clear HT HD z3 HZ
  have HZ : Hid (Zb w3 bx [.int .u64 x, .int .u64 y, .int .u64 z, .slice none 0 0, .slice ia l.length ic, .slice pa pl pc]) := by
    have h0 := HW.out.2
    rw [HBX.out.2] at h0
    exact h0.below HD3.out.old.below
  have z4 := HZ.out.2.1 4 _ rfl
  have HB : Hid (Calls Tryz.prog 59 #[.pointer (some ⟨db, 0, none⟩), .slice ia l.length ic] w3 fun e w' => BrIs W db mb lb V.length V.length V l e w') := bringIn_any ia ic l HD3.out (fun _ => Iff.rfl) rfl (HV.out.2.2.2.2.1.below HW.out.1) HV.out.2.2.2.2.2 hsm hv5
  cases hbr : bring V l with
  | error er =>
    have hne := bring_ne0 hbr
    have HB2 : Hid (Calls Tryz.prog 59 #[.pointer (some ⟨db, 0, none⟩), .slice ia l.length ic] w3 fun e w' => e = .returned (.int .i64 er) ∧ RowKit.Below W.heap.size W w') := HB.out.mono fun e w' hp => by
      unfold BrIs at hp; rw [hbr] at hp; exact hp
    have HE : Hid (edit V l = .error er) := edit_bring hbr
    clear HB hbr
    go_wp2_with (go_at_call 59; go_loud (refine HB2.out.mono ?_; rintro e w4 ⟨rfl, hb4⟩; have HB4 : Hid (RowKit.Below W.heap.size W w4) := hb4; clear hb4))
    go_ret2
    refine ⟨HW.out.1.trans (HB4.out.mono HW.out.1.size), ?_⟩
    rw [HE.out]
    exact ⟨rfl, hne⟩
  | ok V1 =>
    have hh1 := HV.out.2.2.1.bring hbr
    have hc1 := bring_cnt hbr
    have hl1 : V1.length = V.length := bring_len hbr
    have hf1 : Fits V1 := fits_of (by omega) (by omega)
    have HB2 : Hid (Calls Tryz.prog 59 #[.pointer (some ⟨db, 0, none⟩), .slice ia l.length ic] w3 fun e w' => e = .returned (.int .i64 0) ∧ ∃ T ns, DAt W T w' db mb (some ⟨lb, 0, none⟩, V.length, V.length) V1 ns) := HB.out.mono fun e w' hp => by
      unfold BrIs at hp; rw [hbr] at hp; exact hp
    have HF : Hid (Half V1 ∧ Fits V1 ∧ (nums V1).length ≤ 1000000 ∧ V1.length = V.length ∧ bring V l = .ok V1) := ⟨hh1, hf1, by omega, hl1, hbr⟩
    clear HB hbr hh1 hf1 hc1 hl1
    go_upto_region 8 with (go_at_call 59; go_loud (refine HB2.out.mono ?_; rintro e w4 ⟨rfl, T4, ns4, hd4⟩; have HD4 : Hid (DAt W T4 w4 db mb (some ⟨lb, 0, none⟩, V.length, V.length) V1 ns4) := hd4; clear hd4))
    have HO : Hid (Calls Tryz.prog 60 #[.pointer (some ⟨db, 0, none⟩)] w4 fun e w' => OrIs W db mb lb V.length V.length V1 e w') := order_any HD4.out HF.out.1.hull HF.out.2.1 h2 (Nat.le_refl _)
    clear HB2 z4 HZ HD3
    by_cases hov : ((V1.drop 1).map srt).any ovl = true
    · have HO2 : Hid (Calls Tryz.prog 60 #[.pointer (some ⟨db, 0, none⟩)] w4 fun e w' => e = .returned (.int .i64 132) ∧ RowKit.Below W.heap.size W w') := HO.out.mono fun e w' hp => by
        unfold OrIs at hp; rw [if_pos hov] at hp; exact hp
      have HE : Hid (edit V l = .error eOrder) := edit_order HF.out.2.2.2.2 hov
      clear HO hov
      go_wp2_with (go_at_call 60; go_loud (refine HO2.out.mono ?_; rintro e w5 ⟨rfl, hb5⟩; have HB5 : Hid (RowKit.Below W.heap.size W w5) := hb5; clear hb5))
      go_ret2
      refine ⟨HW.out.1.trans (HB5.out.mono HW.out.1.size), ?_⟩
      rw [HE.out]
      exact ⟨rfl, by decide⟩
    · have HO2 : Hid (Calls Tryz.prog 60 #[.pointer (some ⟨db, 0, none⟩)] w4 fun e w' => e = .returned (.int .i64 0) ∧ ∃ T ns, DAt W T w' db mb (some ⟨lb, 0, none⟩, V.length, V.length) (ordered V1) ns) := HO.out.mono fun e w' hp => by
        unfold OrIs at hp; rw [if_neg hov] at hp; exact hp
      have HE : Hid (edit V l = .ok (ordered V1)) := edit_ok HF.out.2.2.2.2 hov
      clear HO hov
      go_upto_region 11 with (go_at_call 60; go_loud (refine HO2.out.mono ?_; rintro e w5 ⟨rfl, T5, ns5, hd5⟩; have HD5 : Hid (DAt W T5 w5 db mb (some ⟨lb, 0, none⟩, V.length, V.length) (ordered V1) ns5) := hd5; clear hd5))
      have f0 := HD5.out.box.2.1 0 _ rfl
      simp only [svV] at f0
      go_wp2
      go_ret2
      have hv := HD5.out.ver (fits_of (by rw [ordered_len, HF.out.2.2.2.1]; exact hv5) (by rw [ordered_cnt]; exact HF.out.2.2.1)) 83
      refine ⟨(HW.out.1.trans (HD5.out.old.below.mono HW.out.1.size)).alloc (Nat.le_trans HW.out.1.size HD5.out.old.below.size) _, ?_⟩
      rw [HE.out]
      refine ⟨_, rfl, hv.re fun b hb h0 => lowT_of (Nat.le_trans HW.out.1.size (lowT_ge h0))⟩
end Vr
end Go.Proofs.YtilkjfbjlljnhaaGreat
