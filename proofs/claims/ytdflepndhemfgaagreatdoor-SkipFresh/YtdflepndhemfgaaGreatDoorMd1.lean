import Derived.Test.YtdflepndhemfgaaGreatDoorTk3
namespace Go.Proofs.YtdflepndhemfgaaGreatDoor
namespace Sk
open Go.RowKit Laws Irw Erw KMath Skm Byt
set_option linter.unusedVariables false
set_option maxRecDepth 100000
set_option linter.unusedSimpArgs false

/-- What has been put in, of the entries 'done'. -/
structure MadeIs (ds : List Nat) (done : List En) (ns : List Nd) (ins : List En) : Prop where
  perm : (ns.map Nd.e).Perm ins
  all : ∀ e ∈ done, ∃ x ∈ ins, x.1.toList = e.1.toList ∧ x.2.1 = e.2.1
  hts : ∀ i x, ins[i]? = some x → ∃ nd ∈ ns, nd.e = x ∧ nd.h = hgt ds i
  sub : ∀ x ∈ ins, x ∈ done
  len : ins.length ≤ done.length
theorem MadeIs.put {ds : List Nat} {done : List En} {ns ns' : List Nd} {ins : List En} {e : En} {ok : Bool} (h : MadeIs ds done ns ins) (hp : PutIs ds ns e ns' ok) : MadeIs ds (done ++ [e]) ns' (if ok = true then ins ++ [e] else ins) := by
  have hl := h.perm.length_eq
  rw [List.length_map] at hl
  rcases hp with ⟨rfl, rfl, nd, h1, h2⟩ | ⟨rfl, h1, pre, post, b, h2, h3⟩
  · rw [if_neg (by simp)]
    refine ⟨h.perm, fun x hx => ?_, h.hts, fun x hx => List.mem_append_left _ (h.sub x hx), by have := h.len; simp; omega⟩
    rcases List.mem_append.1 hx with hx | hx
    · exact h.all x hx
    · rw [List.mem_singleton.1 hx]
      obtain ⟨q1, q2⟩ := (cmpE_zero_iff _ _ _ _).1 h2
      exact ⟨nd.e, h.perm.mem_iff.1 (List.mem_map.2 ⟨nd, h1, rfl⟩), q1, q2⟩
  · rw [if_pos rfl]
    refine ⟨?_, fun x hx => ?_, fun i x hx => ?_, fun x hx => ?_, by have := h.len; simp; omega⟩
    · rw [h3, List.map_append, List.map_cons]
      refine List.perm_middle.trans ?_
      have h4 : (pre.map Nd.e ++ post.map Nd.e).Perm ins := by rw [← List.map_append, ← h2]; exact h.perm
      exact (List.Perm.cons _ h4).trans (List.perm_append_singleton _ _).symm
    · rcases List.mem_append.1 hx with hx | hx
      · obtain ⟨y, hy, q⟩ := h.all x hx
        exact ⟨y, List.mem_append_left _ hy, q⟩
      · rw [List.mem_singleton.1 hx]
        exact ⟨e, by simp, rfl, rfl⟩
    · by_cases hi : i < ins.length
      · rw [List.getElem?_append_left hi] at hx
        obtain ⟨nd, q1, q2, q3⟩ := h.hts i x hx
        refine ⟨nd, ?_, q2, q3⟩
        rw [h2] at q1
        rw [h3]
        rcases List.mem_append.1 q1 with q1 | q1
        · exact List.mem_append_left _ q1
        · exact List.mem_append_right _ (List.mem_cons_of_mem _ q1)
      · have hi2 : i = ins.length := by
          have := (List.getElem?_eq_some_iff.1 hx).1
          simp at this
          omega
        subst hi2
        simp at hx
        subst hx
        exact ⟨⟨b, e, hgt ds ns.length⟩, by rw [h3]; simp, rfl, by rw [hl]⟩
    · rcases List.mem_append.1 hx with hx | hx
      · exact List.mem_append_left _ (h.sub x hx)
      · exact List.mem_append_right _ hx
theorem MadeIs.nil (ds : List Nat) : MadeIs ds [] [] [] := ⟨List.Perm.refl _, by simp, by simp, by simp, by simp⟩

/-- what stands while a list is made -/
structure Mk (w0 : World) (T : Nat → Nat) (w : World) (L : Nat) (ds : List Nat) (ns : List Nd) (v : Value) (ins : List En) : Prop where
  sl : Sl 1 T w L ds ns
  own : OwnE 9 T w v ins
  old : Old w0 T w
theorem Mk.below {w0 : World} {T : Nat → Nat} {w w' : World} {L : Nat} {ds : List Nat} {ns : List Nd} {v : Value} {ins : List En} (h : Mk w0 T w L ds ns v ins) (hb : Below w.heap.size w w') : Mk w0 T w' L ds ns v ins := ⟨h.sl.below hb, h.own.below hb, h.old.goes (Goes.below (t := fun _ => False) hb) (fun z => z)⟩
def MadeAns (w0 : World) (ds : List Nat) (l : List En) (L : Nat) (v : Value) (w' : World) : Prop := ∃ T ns ins, Mk w0 T w' L ds ns v ins ∧ MadeIs ds l ns ins

set_option maxHeartbeats 2000000 in
theorem made_any (w : World) (ad : Option Addr) (cd : Nat) (ds : List Nat) (hd : IsB w ad ds) (hdn : ad = none → cd = 0) (hd47 : ds.length ≤ 140737488355328) (a : Option Addr) (c : Nat) (l : List En) (hl : IsE w a l) (hlen : l.length ≤ 2932031007402) :
    Calls Tryz.prog 5 #[.slice ad ds.length cd, .slice a l.length c] w fun e w' => ∃ L v, e = .returned (.tuple #[.pointer (some ⟨L, 0, none⟩), v]) ∧ MadeAns w ds l L v w' := by
  obtain ⟨i0, hi0, hz0, hz1, hz2⟩ := info_parts infoE
  have HL : Hid (IsE w a l) := hl
  obtain ⟨N, hN⟩ : ∃ N, l.length = N := ⟨_, rfl⟩
  have HN : Hid (l.length = N) := hN
  rw [hN] at hlen ⊢
  have hNB : (N : Int) ≤ 2932031007402 := by omega
  clear hl hN
  go_enter Tryz.func5, Tryz.ntmps5
  go_wp2_with fail
  refine (new_any 1 (fun _ => 0) w ad ds.length cd ds hd rfl hdn hd47).mono ?_
  rintro e w1 ⟨L, T1, rfl, hL, hsl, hgo⟩
  have HM : Hid (Mk w T1 w1 L ds [] (.slice none 0 0) []) := ⟨hsl, OwnE.empty _ _ _, ⟨⟨hgo.os, hgo.tape, hgo.output, hgo.size, fun b hb => hgo.block b hb (fun z => z)⟩, fun b hb => by
    rcases hb with hb | hb
    · exact hgo.tag b hb (fun z => z)
    · exact hgo.high b hb rfl⟩⟩
  clear hsl hgo hd hdn
  go_wp2
  go_loopw [7, 8] (fun v i wr => ∃ (k : Nat) (T : Nat → Nat) (ns : List Nd) (ins : List En) (ai : Option Addr) (ci : Nat), k ≤ N ∧ i = .int .i64 (k : Int) ∧ v = .slice ai ins.length ci ∧ Hid (Mk w T wr L ds ns (.slice ai ins.length ci) ins ∧ MadeIs ds (l.take k) ns ins)) (fun _ i _ => N - (intOf i).toNat)
  case atStart => exact ⟨0, T1, [], [], none, 0, Nat.zero_le _, rfl, rfl, HM.out, MadeIs.nil ds⟩
  case round =>
    clear HM
    obtain ⟨k, T, ns, ins, ai, ci, hk, rfl, rfl, HK⟩ := hrel
    by_cases hlt : k < N
    · have hlt' : k < l.length := by rw [HN.out]; exact hlt
      have hIW : IsE wr a l := by
        intro hne
        obtain ⟨bb, off, e, hr⟩ := HL.out hne
        exact ⟨bb, off, e, hr.below HK.out.1.old.below hr.1⟩
      obtain ⟨bl, off, rfl, hr⟩ := hIW.at_ (by omega)
      obtain ⟨c0, c1, c2, c3⟩ := hr.2 k (l.getD k ez) (by simp [hlt'])
      have d1 : (k : Int) < (N : Int) := by omega
      have hinl : ins.length ≤ k := by
        have := HK.out.2.len
        rw [List.length_take] at this
        omega
      have e9 : l.take k ++ [l.getD k ez] = l.take (k + 1) := by
        rw [List.take_succ_eq_append_getElem hlt']
        simp [hlt']
      have HPU : Hid (Calls Tryz.prog 16 #[.pointer (some ⟨L, 0, none⟩), .agg #[.string (l.getD k ez).1, .int .u64 (l.getD k ez).2.1, .bool (l.getD k ez).2.2.1, .string (l.getD k ez).2.2.2]] wr fun r w' => ∃ ok, r = .returned (.bool ok) ∧ PutAns 1 T wr L ds ns (l.getD k ez) ok w') := put_any 1 T wr L ds ns (l.getD k ez) HK.out.1.sl (by omega) (by omega) (by have := HK.out.2.perm.length_eq; rw [List.length_map] at this; omega)
      have HAT : Hid (∀ w', Below w.heap.size w w' → w'.cell? ⟨bl, off + k * 4, none⟩ = some (.string (l.getD k ez).1) ∧ w'.cell? ⟨bl, off + k * 4 + 1, none⟩ = some (.int .u64 (l.getD k ez).2.1) ∧ w'.cell? ⟨bl, off + k * 4 + 2, none⟩ = some (.bool (l.getD k ez).2.2.1) ∧ w'.cell? ⟨bl, off + k * 4 + 3, none⟩ = some (.string (l.getD k ez).2.2.2)) := fun w' hb => by
        obtain ⟨bb, of2, ee, hr2⟩ := HL.out.at_ (by omega)
        simp only [Option.some.injEq, Addr.mk.injEq] at ee
        obtain ⟨rfl, rfl, _⟩ := ee
        have := (hr2.below hb hr2.1).2 k (l.getD k ez) (by simp [hlt'])
        exact this
      have HE9 : Hid (l.take k ++ [l.getD k ez] = l.take (k + 1)) := e9
      clear hr hIW hlt' e9
      generalize l.getD k ez = x at *
      obtain ⟨xk, xs, xd, xv⟩ := x
      dsimp only at c0 c1 c2 c3 HPU HAT
      go_wp2_with fail
      refine HPU.out.mono ?_
      rintro e w4 ⟨ok, rfl, T4, ns4, k1, k2, k3⟩
      have ho4 : OwnE 9 T4 w4 (.slice ai ins.length ci) ins := HK.out.1.own.goes k2 (by omega)
      have hold4 : Old w T4 w4 := HK.out.1.old.goes k2 (by omega)
      have hmi := HK.out.2.put k3
      rw [HE9.out] at hmi
      obtain ⟨x0, x1, x2, x3⟩ := HAT.out w4 hold4.below
      clear HPU HAT HK k3 k2 c0 c1 c2 c3
      cases ok with
      | true =>
        rw [if_pos rfl] at hmi
        have HO4 : Hid (OwnE 9 T4 w4 (.slice ai ins.length ci) ins) := ho4
        have HS4 : Hid (Sl 1 T4 w4 L ds ns4 ∧ Old w T4 w4 ∧ MadeIs ds (l.take (k + 1)) ns4 (ins ++ [(xk, xs, xd, xv)])) := ⟨k1, hold4, hmi⟩
        have HBA : Hid (Below w4.heap.size w4 (w4.alloc (.cells #[.string xk, .int .u64 xs, .bool xd, .string xv] 61))) := (Below.refl _ _).alloc (Nat.le_refl _) _
        clear ho4 hold4 hmi k1
        go_wp2_with (at_builtin; go_loud (refine wpList_appE _ (by rfl) (.tmp 27) (.tmp 32) 23 (by rfl) i0 undE5 hi0 hz0 hz1 hz2 9 T4 (.slice ai ins.length ci) ins (by rfl) (HO4.out.below HBA.out) (some ⟨w4.heap.size, 0, none⟩) 1 1 [(xk, xs, xd, xv)] (by rfl) (by rfl) (by simp) isE_new5 (by simp; omega) ?_; intro a7 c7 T7 w7 hown7 hgo7 hat7; have hg' : Goes (· = 9) T4 w4 T7 w7 := (Goes.below HBA.out).trans hgo7; have HF : Hid (Mk w T7 w7 L ds ns4 (.slice a7 (ins ++ [(xk, xs, xd, xv)]).length c7) (ins ++ [(xk, xs, xd, xv)]) ∧ MadeIs ds (l.take (k + 1)) ns4 (ins ++ [(xk, xs, xd, xv)])) := ⟨⟨HS4.out.1.goes hg' (by omega) (by omega), by rw [List.length_append]; exact hown7, HS4.out.2.1.goes hg' (by omega)⟩, HS4.out.2.2⟩; clear hown7 hgo7 hat7 hg'))
        go_roundw
        case rel => exact ⟨k + 1, T7, ns4, ins ++ [(xk, xs, xd, xv)], a7, c7, by omega, by go_num, by simp, HF⟩
        case measure => simp [intOf]; omega
      | false =>
        rw [if_neg Bool.false_ne_true] at hmi
        have HF : Hid (Mk w T4 w4 L ds ns4 (.slice ai ins.length ci) ins ∧ MadeIs ds (l.take (k + 1)) ns4 ins) := ⟨⟨k1, ho4, hold4⟩, hmi⟩
        clear ho4 hold4 hmi k1
        go_wp2
        go_roundw
        case rel => exact ⟨k + 1, T4, ns4, ins, ai, ci, by omega, by go_num, rfl, HF⟩
        case measure => simp [intOf]; omega
    · obtain rfl : k = N := by omega
      have HF : Hid (MadeAns w ds l L (.slice ai ins.length ci) wr) := by
        have := HK.out
        rw [List.take_of_length_le (by rw [HN.out]; exact Nat.le_refl _)] at this
        exact ⟨T, ns, ins, this.1, this.2⟩
      clear HK
      go_wp2
      go_ret2
      exact ⟨L, _, rfl, HF.out⟩
end Sk
end Go.Proofs.YtdflepndhemfgaaGreatDoor
