import Derived.Test.YtecgecolghgjoaaZd
import Derived.Test.YtecgecolghgjoaaVx
namespace Go.Proofs.Ytecgecolghgjoaa
namespace Vr
open Go.Shelf Go.RowKit Go.Lib Go.Sort Go.Maps Go.ChangeMaps Go.MapKept Laws Irw Crw
set_option linter.unusedVariables false
set_option linter.unusedSimpArgs false
set_option maxRecDepth 20000
theorem takes_sub : ∀ {n : Nat} {Q Q' : List (Nat × Nat)} {O : List Pc}, takes n Q O = .ok Q' → Q'.Sublist Q
  | n, Q, Q', [], h => by simp [takes] at h; rw [h]; exact List.Sublist.refl _
  | n, Q, Q', p :: r, h => by
    rw [takes] at h
    split at h
    · split at h
      · exact (takes_sub h).trans List.filter_sublist
      · cases h
    · cases h
theorem takes_ne0 : ∀ {n : Nat} {Q : List (Nat × Nat)} {O : List Pc} {x : Int}, takes n Q O = .error x → x ≠ 0
  | n, Q, [], x, h => by simp [takes] at h
  | n, Q, p :: r, x, h => by
    rw [takes] at h
    split at h
    · split at h
      · exact takes_ne0 h
      · cases h; decide
    · cases h; decide
theorem stay_nums (ns : List Nat) : ∀ (V : Lv), nums (V.map (stay ns)) = (nums V).filter fun x => decide (x ∈ ns)
  | [] => rfl
  | l :: V => by
    have ih := stay_nums ns V
    unfold nums at ih ⊢
    rw [List.map_cons, List.flatten_cons, List.map_append, ih, List.flatten_cons, List.map_append, List.filter_append]
    congr 1
    unfold stay
    rw [List.filter_map]
    rfl
theorem stay_half {V : Lv} (h : Half V) (ns : List Nat) : Half (V.map (stay ns)) := by
  refine ⟨by rw [stay_nums]; exact List.filter_sublist.nodup h.nod, fun l hl => ?_⟩
  obtain ⟨k, hk, rfl⟩ := List.mem_map.1 hl
  exact fun t ht => h.hull k hk t (List.mem_filter.1 ht).1
theorem stay_num {V : Lv} (h : NumOk V) (ns : List Nat) : NumOk (V.map (stay ns)) := by
  intro l hl t ht
  obtain ⟨k, hk, rfl⟩ := List.mem_map.1 hl
  exact h k hk t (List.mem_filter.1 ht).1
theorem stay_le (V : Lv) (ns : List Nat) : (nums (V.map (stay ns))).length ≤ (nums V).length := by
  rw [stay_nums]; exact List.length_filter_le _ _
theorem stay_is {V : Lv} {n : Nat} {Q : List (Nat × Nat)} {O : List Pc} (h : (nums V).Nodup) (hQ : takes n (prs V 0) O = .ok Q) : (∀ x, x ∈ Q.map Prod.fst ↔ x ∈ nums (V.map (stay (Q.map Prod.fst)))) ∧ (Q.map Prod.fst).length = (nums (V.map (stay (Q.map Prod.fst)))).length := by
  have hs : (Q.map Prod.fst).Sublist (nums V) := by
    have := (takes_sub hQ).map Prod.fst
    rw [prs_nums] at this
    exact this
  have hm : ∀ x, x ∈ Q.map Prod.fst ↔ x ∈ nums (V.map (stay (Q.map Prod.fst))) := fun x => by
    rw [stay_nums, List.mem_filter]
    constructor
    · intro hx; exact ⟨hs.subset hx, by simpa using hx⟩
    · intro hx; simpa using hx.2
  refine ⟨hm, ?_⟩
  exact ((List.perm_ext_iff_of_nodup (hs.nodup h) (by rw [stay_nums]; exact List.filter_sublist.nodup h)).2 hm).length_eq
/-- an edit: the next version or the error -/
def edit2 (V : Lv) (O : List Pc) (l : List Pi) : Except Int Lv :=
  match takes V.length (prs V 0) O with
  | .error e => .error e
  | .ok Q => edit (V.map (stay (Q.map Prod.fst))) l
def E2Is (w : World) (V : Lv) (O : List Pc) (l : List Pi) (e : Ending) (w' : World) : Prop := RowKit.Below w.heap.size w w' ∧
  match edit2 V O l with
  | .error x => e = .returned (.tuple #[.pointer none, .int .i64 x]) ∧ x ≠ 0
  | .ok V' => ∃ nb, e = .returned (.tuple #[.pointer (some ⟨nb, 0, none⟩), .int .i64 0]) ∧ VT (lowT w.heap.size) w' nb V'
set_option maxHeartbeats 2000000 in
theorem order_one {w0 : World} {T : Nat → Nat} {w : World} {db mb lb c : Nat} {V : Lv} {ns : List Nat} (h : DAt w0 T w db mb (some ⟨lb, 0, none⟩, 1, c) V ns) (hc : 1 ≤ c) :
    Calls Try.prog 39 #[.pointer (some ⟨db, 0, none⟩)] w fun e w' => OrIs w0 db mb lb 1 c V e w' := by
  have hl : V.length = 1 := h.len.symm
  have hd : V.drop 1 = [] := List.drop_eq_nil_of_le (by omega)
  have ho : ordered V = V := by
    unfold ordered
    rw [hd, List.take_of_length_le (by omega)]
    simp
  have HQ : Hid (∀ w', RowKit.Below w.heap.size w w' → OrIs w0 db mb lb 1 c V (.returned (.int .i64 0)) w') := fun w' hb => by
    unfold OrIs
    rw [hd]
    simp only [List.map_nil, List.any_nil]
    rw [if_neg (by simp), ho]
    exact ⟨by trivial, T, ns, h.below hb⟩
  have c0 := h.box.2.1 0 _ rfl
  simp only [svV] at c0
  clear h hl hd ho
  have q2 : (1 : Int) ≤ (c : Int) := by omega
  by_cases hc1 : c = 1
  · subst hc1
    go_enter Try.func39, Try.ntmps39
    go_wp2
    go_loopw [11] (fun i wr => i = .int .i64 0 ∧ wr = w) (fun _ _ => 0)
    case atStart => exact ⟨rfl, rfl⟩
    case round =>
      obtain ⟨rfl, rfl⟩ := hrel
      go_wp2
      go_ret
      exact HQ.out _ (Below.refl _ _)
  · go_enter Try.func39, Try.ntmps39
    go_wp2
    go_loopw [11] (fun i wr => i = .int .i64 0 ∧ wr = w) (fun _ _ => 0)
    case atStart => exact ⟨rfl, rfl⟩
    case round =>
      obtain ⟨rfl, rfl⟩ := hrel
      go_wp2
      go_ret
      exact HQ.out _ (Below.refl _ _)
theorem order2_any {w0 : World} {T : Nat → Nat} {w : World} {db mb lb n c : Nat} {V : Lv} {ns : List Nat} (h : DAt w0 T w db mb (some ⟨lb, 0, none⟩, n, c) V ns) (hh : ∀ l ∈ V, Hull l) (hf : Fits V) (h1 : 1 ≤ n) (hnc : n ≤ c) :
    Calls Try.prog 39 #[.pointer (some ⟨db, 0, none⟩)] w fun e w' => OrIs w0 db mb lb n c V e w' := by
  by_cases h2 : 2 ≤ n
  · exact order_any h hh hf h2 hnc
  · obtain rfl : n = 1 := by omega
    exact order_one h hnc
set_option maxHeartbeats 4000000 in
theorem edited2_any (vb : Nat) (V : Lv) (w : World) (x y z : Int) (oa : Option Addr) (oc : Nat) (O : List Pc) (ia : Option Addr) (ic : Nat) (pa : Option Addr) (pl pc : Nat) (l : List Pi) (h : VAt w vb V) (hn : NumOk V) (hh : Half V) (h2 : 1 ≤ V.length) (hsm : (nums V).length + l.length ≤ 3000000) (hl : Ls kPi w (ia, l.length, ic) l) (hp : PiOk l) (hO : Ls kPc w (oa, O.length, oc) O) (hOn : ∀ p ∈ O, p.no < U64) (hol : O.length ≤ 3000000) :
    Calls Try.prog 24 #[.pointer (some ⟨vb, 0, none⟩), .agg #[.int .u64 x, .int .u64 y, .int .u64 z, .slice oa O.length oc, .slice ia l.length ic, .slice pa pl pc]] w fun e w' => E2Is w V O l e w' := by
  obtain ⟨W, hW⟩ : ∃ W, w.alloc (Obj.cells #[.int .u64 x, .int .u64 y, .int .u64 z, .slice oa O.length oc, .slice ia l.length ic, .slice pa pl pc] 38) = W := ⟨_, rfl⟩
  have HW : Hid (RowKit.Below w.heap.size w W ∧ Zb W w.heap.size [.int .u64 x, .int .u64 y, .int .u64 z, .slice oa O.length oc, .slice ia l.length ic, .slice pa pl pc]) := by
    rw [← hW]
    exact ⟨(Below.refl _ _).alloc (Nat.le_refl _) _, Zb.new _ _ _⟩
  have HV : Hid (VAt w vb V ∧ NumOk V ∧ Half V ∧ V.length ≤ 5 ∧ Ls kPi w (ia, l.length, ic) l ∧ PiOk l) := ⟨h, hn, hh, h.1.1, hl, hp⟩
  have HOO : Hid (Ls kPc w (oa, O.length, oc) O ∧ (∀ p ∈ O, p.no < U64)) := ⟨hO, hOn⟩
  have hv5 := h.1.1
  have HC : Hid (Calls Try.prog 36 #[.pointer (some ⟨vb, 0, none⟩)] W fun e w' => DqIs W V e w') := draft_lv vb V W (h.below HW.out.1) hn hh.nod
  clear h hn hh hl hp hO hOn
  go_enter Try.func24, Try.ntmps24
  go_upto_region 2 with (go_at_call 36; go_loud ((try rw [hW]); refine HC.out.mono ?_; rintro e w2 ⟨T, db, mb, lb, rfl, hd⟩; have HD : Hid (DAt W T w2 db mb (some ⟨lb, 0, none⟩, V.length, V.length) V (nums V) ∧ LvM w2 mb (prs V 0)) := hd; clear hd))
  clear hW HC
  obtain ⟨bx, hbx⟩ : ∃ b, w.heap.size = b := ⟨_, rfl⟩
  rw [hbx]
  have HZ : Hid (Zb w2 bx [.int .u64 x, .int .u64 y, .int .u64 z, .slice oa O.length oc, .slice ia l.length ic, .slice pa pl pc]) := by rw [← hbx]; exact HW.out.2.below HD.out.1.old.below
  have z3 := HZ.out.2.1 3 _ rfl
  have HT : Hid (Calls Try.prog 37 #[.pointer (some ⟨db, 0, none⟩), .slice oa O.length oc] w2 fun e w' => TkIs W db mb lb V.length V.length V O e w') := takeOut_any oa oc O HD.out.1 HD.out.2 HV.out.2.2.1.nod (HOO.out.1.below HW.out.1) HOO.out.2 hol HV.out.1.1 HV.out.2.1
  have HBX : Hid (bx < W.heap.size ∧ w.heap.size = bx) := ⟨by rw [← hbx]; exact HW.out.2.1, hbx⟩
  clear hbx
  cases htk : takes V.length (prs V 0) O with
  | error er =>
    have hne := takes_ne0 htk
    have HT2 : Hid (Calls Try.prog 37 #[.pointer (some ⟨db, 0, none⟩), .slice oa O.length oc] w2 fun e w' => e = .returned (.int .i64 er) ∧ RowKit.Below W.heap.size W w') := HT.out.mono fun e w' hp => by
      unfold TkIs at hp; rw [htk] at hp; exact hp
    have HE : Hid (edit2 V O l = .error er) := by unfold edit2; rw [htk]; rfl
    clear HT htk
    go_wp2_with (go_at_call 37; go_loud (refine HT2.out.mono ?_; rintro e w4 ⟨rfl, hb4⟩; have HB4 : Hid (RowKit.Below W.heap.size W w4) := hb4; clear hb4))
    go_ret2
    refine ⟨HW.out.1.trans (HB4.out.mono HW.out.1.size), ?_⟩
    rw [HE.out]
    exact ⟨rfl, hne⟩
  | ok Q =>
    obtain ⟨ns2, hns2⟩ : ∃ ns, Q.map Prod.fst = ns := ⟨_, rfl⟩
    obtain ⟨V2, hV2⟩ : ∃ V2, V.map (stay ns2) = V2 := ⟨_, rfl⟩
    have HT2 : Hid (Calls Try.prog 37 #[.pointer (some ⟨db, 0, none⟩), .slice oa O.length oc] w2 fun e w' => e = .returned (.int .i64 0) ∧ ∃ T, DAt W T w' db mb (some ⟨lb, 0, none⟩, V.length, V.length) V2 ns2) := HT.out.mono fun e w' hp => by
      unfold TkIs at hp; rw [htk] at hp; rw [← hV2, ← hns2]; exact hp
    have HS : Hid (edit2 V O l = edit V2 l ∧ Half V2 ∧ (∀ x, x ∈ ns2 ↔ x ∈ nums V2) ∧ ns2.length = (nums V2).length ∧ V2.length = V.length ∧ (nums V2).length ≤ (nums V).length) := by
      have h1 := stay_is HV.out.2.2.1.nod htk
      rw [hns2, hV2] at h1
      refine ⟨?_, ?_, h1.1, h1.2, ?_, ?_⟩
      · unfold edit2; rw [htk, ← hV2, ← hns2]
      · rw [← hV2]; exact stay_half HV.out.2.2.1 _
      · rw [← hV2, List.length_map]
      · rw [← hV2]; exact stay_le _ _
    clear HT htk hns2 hV2
    go_upto_region 5 with (go_at_call 37; go_loud (refine HT2.out.mono ?_; rintro e w3 ⟨rfl, T3, hd⟩; have HD3 : Hid (DAt W T3 w3 db mb (some ⟨lb, 0, none⟩, V.length, V.length) V2 ns2) := hd; clear hd))
    clear HT2 HD z3 HZ
    have HZ : Hid (Zb w3 bx [.int .u64 x, .int .u64 y, .int .u64 z, .slice oa O.length oc, .slice ia l.length ic, .slice pa pl pc]) := by
      have h0 := HW.out.2
      rw [HBX.out.2] at h0
      exact h0.below HD3.out.old.below
    have z4 := HZ.out.2.1 4 _ rfl
    have HB : Hid (Calls Try.prog 38 #[.pointer (some ⟨db, 0, none⟩), .slice ia l.length ic] w3 fun e w' => BrIs W db mb lb V.length V.length V2 l e w') := bringIn_any ia ic l HD3.out HS.out.2.2.1 HS.out.2.2.2.1 (HV.out.2.2.2.2.1.below HW.out.1) HV.out.2.2.2.2.2 (by have := HS.out.2.2.2.2.2; omega) (by rw [HS.out.2.2.2.2.1]; exact hv5)
    cases hbr : bring V2 l with
    | error er =>
      have hne := bring_ne0 hbr
      have HB2 : Hid (Calls Try.prog 38 #[.pointer (some ⟨db, 0, none⟩), .slice ia l.length ic] w3 fun e w' => e = .returned (.int .i64 er) ∧ RowKit.Below W.heap.size W w') := HB.out.mono fun e w' hp => by
        unfold BrIs at hp; rw [hbr] at hp; exact hp
      have HE : Hid (edit2 V O l = .error er) := HS.out.1.trans (edit_bring hbr)
      clear HB hbr
      go_wp2_with (go_at_call 38; go_loud (refine HB2.out.mono ?_; rintro e w4 ⟨rfl, hb4⟩; have HB4 : Hid (RowKit.Below W.heap.size W w4) := hb4; clear hb4))
      go_ret2
      refine ⟨HW.out.1.trans (HB4.out.mono HW.out.1.size), ?_⟩
      rw [HE.out]
      exact ⟨rfl, hne⟩
    | ok V1 =>
      have hh1 := HS.out.2.1.bring hbr
      have hc1 := bring_cnt hbr
      have hl1 : V1.length = V.length := (bring_len hbr).trans HS.out.2.2.2.2.1
      have hc0 := HS.out.2.2.2.2.2
      have hf1 : Fits V1 := fits_of (by omega) (by omega)
      have HB2 : Hid (Calls Try.prog 38 #[.pointer (some ⟨db, 0, none⟩), .slice ia l.length ic] w3 fun e w' => e = .returned (.int .i64 0) ∧ ∃ T ns, DAt W T w' db mb (some ⟨lb, 0, none⟩, V.length, V.length) V1 ns) := HB.out.mono fun e w' hp => by
        unfold BrIs at hp; rw [hbr] at hp; exact hp
      have HF : Hid (Half V1 ∧ Fits V1 ∧ (nums V1).length ≤ 3000000 ∧ V1.length = V.length ∧ bring V2 l = .ok V1) := ⟨hh1, hf1, by omega, hl1, hbr⟩
      clear HB hbr hh1 hf1 hc1 hl1 hc0
      go_upto_region 8 with (go_at_call 38; go_loud (refine HB2.out.mono ?_; rintro e w4 ⟨rfl, T4, ns4, hd4⟩; have HD4 : Hid (DAt W T4 w4 db mb (some ⟨lb, 0, none⟩, V.length, V.length) V1 ns4) := hd4; clear hd4))
      have HO : Hid (Calls Try.prog 39 #[.pointer (some ⟨db, 0, none⟩)] w4 fun e w' => OrIs W db mb lb V.length V.length V1 e w') := order2_any HD4.out HF.out.1.hull HF.out.2.1 h2 (Nat.le_refl _)
      clear HB2 z4 HZ HD3
      by_cases hov : ((V1.drop 1).map srt).any ovl = true
      · have HO2 : Hid (Calls Try.prog 39 #[.pointer (some ⟨db, 0, none⟩)] w4 fun e w' => e = .returned (.int .i64 132) ∧ RowKit.Below W.heap.size W w') := HO.out.mono fun e w' hp => by
          unfold OrIs at hp; rw [if_pos hov] at hp; exact hp
        have HE : Hid (edit2 V O l = .error eOrder) := HS.out.1.trans (edit_order HF.out.2.2.2.2 hov)
        clear HO hov
        go_wp2_with (go_at_call 39; go_loud (refine HO2.out.mono ?_; rintro e w5 ⟨rfl, hb5⟩; have HB5 : Hid (RowKit.Below W.heap.size W w5) := hb5; clear hb5))
        go_ret2
        refine ⟨HW.out.1.trans (HB5.out.mono HW.out.1.size), ?_⟩
        rw [HE.out]
        exact ⟨rfl, by decide⟩
      · have HO2 : Hid (Calls Try.prog 39 #[.pointer (some ⟨db, 0, none⟩)] w4 fun e w' => e = .returned (.int .i64 0) ∧ ∃ T ns, DAt W T w' db mb (some ⟨lb, 0, none⟩, V.length, V.length) (ordered V1) ns) := HO.out.mono fun e w' hp => by
          unfold OrIs at hp; rw [if_neg hov] at hp; exact hp
        have HE : Hid (edit2 V O l = .ok (ordered V1)) := HS.out.1.trans (edit_ok HF.out.2.2.2.2 hov)
        clear HO hov
        go_upto_region 11 with (go_at_call 39; go_loud (refine HO2.out.mono ?_; rintro e w5 ⟨rfl, T5, ns5, hd5⟩; have HD5 : Hid (DAt W T5 w5 db mb (some ⟨lb, 0, none⟩, V.length, V.length) (ordered V1) ns5) := hd5; clear hd5))
        have f0 := HD5.out.box.2.1 0 _ rfl
        simp only [svV] at f0
        go_wp2
        go_ret2
        have hv := HD5.out.ver (fits_of (by rw [ordered_len, HF.out.2.2.2.1]; exact hv5) (by rw [ordered_cnt]; exact HF.out.2.2.1)) 65
        refine ⟨(HW.out.1.trans (HD5.out.old.below.mono HW.out.1.size)).alloc (Nat.le_trans HW.out.1.size HD5.out.old.below.size) _, ?_⟩
        rw [HE.out]
        refine ⟨_, rfl, hv.re fun b hb h0 => lowT_of (Nat.le_trans HW.out.1.size (lowT_ge h0))⟩
end Vr
end Go.Proofs.Ytecgecolghgjoaa
