import Derived.Test.YtcioaoanhmpdkaaMm3
import Derived.Test.YtcioaoanhmpdkaaMg1
namespace Go.Proofs.Ytcioaoanhmpdkaa
namespace Mem
open Go.RowKit Laws Irw Erw KMath Skm Byt Sk
set_option linter.unusedVariables false
set_option maxRecDepth 100000
set_option linter.unusedSimpArgs false

theorem all_mem2 {t : Nat} {T : Nat → Nat} {w : World} {M L : Nat} {ds : List Nat} {ns : List Nd} {fz : Bool} (h : Mt t T w M L ds ns fz) {B : Nat} (hB : w.heap.size = B) :
    Calls Try.prog 30 #[.pointer (some ⟨M, 0, none⟩)] w fun e w' => e = .returned (.func (.func 88) #[] #[.pointer (some ⟨B, 0, none⟩), .pointer (some ⟨B + 1, 0, none⟩), .pointer (some ⟨B + 2, 0, none⟩)]) ∧ Below w.heap.size w w' ∧ w'.cell? ⟨B, 0, none⟩ = some (.pointer (some ⟨L, 0, none⟩)) ∧ w'.cell? ⟨B + 1, 0, none⟩ = some (.string ⟨#[]⟩) ∧ w'.cell? ⟨B + 2, 0, none⟩ = some (.int .u64 18446744073709551615) := by
  subst hB
  exact all_mem h
theorem taken_mem {t : Nat} {T : Nat → Nat} {w : World} {M L : Nat} {ds : List Nat} {ns : List Nd} {fz : Bool} (h : Mt t T w M L ds ns fz) {B n : Nat} (hl : ns.length ≤ 1000000000) (hn : ns.length = n) (k1 : w.cell? ⟨B, 0, none⟩ = some (.pointer (some ⟨L, 0, none⟩))) (k2 : w.cell? ⟨B + 1, 0, none⟩ = some (.string ⟨#[]⟩)) (k3 : w.cell? ⟨B + 2, 0, none⟩ = some (.int .u64 18446744073709551615)) :
    Calls Try.prog 26 #[.func (.func 88) #[] #[.pointer (some ⟨B, 0, none⟩), .pointer (some ⟨B + 1, 0, none⟩), .pointer (some ⟨B + 2, 0, none⟩)], .int .i64 (-1)] w fun e w' => ∃ a c, e = .returned (.tuple #[.slice a n c, .bool true]) ∧ IsE w' a (ns.map Nd.e) ∧ (a = none → c = 0) ∧ Below w.heap.size w w' := by
  obtain ⟨pre, post, hwk⟩ := Wk.of h.sl ⟨#[]⟩ 18446744073709551615
  have hpn : post = ns := post_all hwk fun nd hnd => (h.ok nd hnd).2.2.2.2
  have := taken_all B (B + 1) (B + 2) L ⟨#[]⟩ 18446744073709551615 ns pre post w hwk k1 k2 k3 (by omega)
  rw [hpn, hn] at this
  exact this
abbrev kA3 : En := (⟨#[97]⟩, 3, true, ⟨#[]⟩)
abbrev kA1 : En := (⟨#[97]⟩, 1, false, ⟨#[49]⟩)
abbrev kB2 : En := (⟨#[98]⟩, 2, false, ⟨#[50]⟩)
def kws : List Chk.Wr := [(⟨#[97]⟩, false, ⟨#[49]⟩), (⟨#[98]⟩, false, ⟨#[50]⟩), (⟨#[97]⟩, true, ⟨#[]⟩)]
theorem kents : Ents.ents 1 kws = [kA1, kB2, kA3] := by rfl
theorem known_ns {ns : List Nd} (h : Adds [] [] (Ents.ents 1 kws) ns) (hs : ns.Pairwise (fun a b => ltE a.e b.e)) : ∃ n1 n2 n3 : Nd, ns = [n1, n2, n3] ∧ n1.e = kA3 ∧ n2.e = kA1 ∧ n3.e = kB2 := by
  rw [kents] at h
  have h1 := h.perm (by simp [cmp1])
  have h2 : (ns.map Nd.e) = [kA3, kA1, kB2] := by
    refine eq_sorted ltE_asym (h1.trans ?_) (List.pairwise_map.2 hs) (by simp [ltE, cmp1])
    show ([kA1, kB2, kA3] : List En).Perm [kA3, kA1, kB2]
    exact (List.perm_append_comm (l₁ := [kA1, kB2]) (l₂ := [kA3]))
  have h3 : ns.length = 3 := by have := congrArg List.length h2; simpa using this
  obtain ⟨n1, n2, n3, rfl⟩ : ∃ n1 n2 n3, ns = [n1, n2, n3] := by
    match ns, h3 with
    | [n1, n2, n3], _ => exact ⟨n1, n2, n3, rfl⟩
  simp only [List.map_cons, List.map_nil, List.cons.injEq] at h2
  exact ⟨n1, n2, n3, rfl, h2.1, h2.2.1, h2.2.2.1⟩
theorem known_gets {ns : List Nd} {n1 n2 n3 : Nd} (h : ns = [n1, n2, n3]) (e1 : n1.e = kA3) (e2 : n2.e = kA1) (e3 : n3.e = kB2) :
    getE ⟨#[97]⟩ (ns.dropWhile (aheadB ⟨#[97]⟩ 2)) = some kA1 ∧ getE ⟨#[97]⟩ (ns.dropWhile (aheadB ⟨#[97]⟩ 3)) = some kA3 ∧ getE ⟨#[97]⟩ (ns.dropWhile (aheadB ⟨#[97]⟩ 0)) = none ∧ wS ns = 1352 ∧ lM ns = 3 := by
  subst h
  refine ⟨?_, ?_, ?_, ?_, ?_⟩
  · simp [List.dropWhile, aheadB, e1, e2, e3, cmp1, getE]
  · simp [List.dropWhile, aheadB, e1, e2, e3, cmp1, getE]
  · simp [List.dropWhile, aheadB, e1, e2, e3, cmp1, getE]
  · simp only [wS, List.map_cons, List.map_nil, e1, e2, e3]; rfl
  · simp only [lM, e1, e2, e3]; rfl
theorem known_wr {w : World} {u : TypeId} : Chk.IsWr (w.alloc (.cells #[.string ⟨#[97]⟩, .bool false, .string ⟨#[49]⟩, .string ⟨#[98]⟩, .bool false, .string ⟨#[50]⟩, .string ⟨#[97]⟩, .bool true, .string ⟨#[]⟩] u)) (some ⟨w.heap.size, 0, none⟩) kws := by
  refine ⟨fun _ => ⟨_, 0, rfl, by simp, fun i x hx => ?_⟩, by decide, ?_⟩
  · match i with
    | 0 => cases hx; refine ⟨?_, ?_, ?_⟩ <;> (rw [World.cell?_alloc_at _ _ _ _ rfl]; rfl)
    | 1 => cases hx; refine ⟨?_, ?_, ?_⟩ <;> (rw [World.cell?_alloc_at _ _ _ _ rfl]; rfl)
    | 2 => cases hx; refine ⟨?_, ?_, ?_⟩ <;> (rw [World.cell?_alloc_at _ _ _ _ rfl]; rfl)
    | i + 3 => cases hx
  · intro x hx
    simp only [kws, List.mem_cons, List.not_mem_nil, or_false] at hx
    rcases hx with rfl | rfl | rfl <;> decide
set_option maxHeartbeats 2000000 in
theorem known_any (w : World) : Calls Try.prog 18 #[] w fun e w' => e = .returned (.bool true) ∧ Below w.heap.size w w' := by
  have HNW : Hid (Calls Try.prog 10 #[.slice none 0 0] w fun e w' => ∃ M L T', e = .returned (.pointer (some ⟨M, 0, none⟩)) ∧ Mt 1 T' w' M L [] [] false ∧ Goes (fun _ => False) (fun _ => 0) w T' w') := new_mem 1 (fun _ => 0) w none 0 0 [] (IsB.nil _ _) rfl (fun _ => rfl) (by simp) (fun _ _ => rfl)
  go_enter Try.func18, Try.ntmps18
  go_wp2_with (first
    | (go_at_call 10; refine HNW.out.mono ?_; rintro e w1 ⟨M, L, T1, rfl, hmt, hgo⟩; have HM1 : Hid (Mt 1 T1 w1 M L [] [] false ∧ Old w T1 w1) := ⟨hmt, (Old.first w).goes hgo (fun z => z)⟩; clear hmt hgo)
    | (go_at_call 22; refine (add_any 1 T1 _ M L [] [] false (HM1.out.1.below ((Below.refl _ _).alloc (Nat.le_refl _) _)) (by omega) (by simp) (by simp) (fun b hb => HM1.out.2.zero b (.inr (by simp at hb; omega))) 1 _ 3 3 kws known_wr rfl).mono ?_; rintro e w2 ⟨rfl, T2, ns, hmt, hgo, hans⟩; have HG : Hid (Mt 1 T2 w2 M L [] ns false ∧ Below w.heap.size w w2) := ⟨hmt, ((HM1.out.2.goes (Goes.below (t := uM 1) ((Below.refl _ _).alloc (Nat.le_refl _) _)) (uM0 (by omega))).goes hgo (uM0 (by omega))).below⟩; have HA : Hid (∃ n1 n2 n3 : Nd, ns = [n1, n2, n3] ∧ n1.e = kA3 ∧ n2.e = kA1 ∧ n3.e = kB2) := (by rcases hans with ⟨_, hans⟩ | ⟨h0, _⟩; exact known_ns hans hmt.sl.sorted; exact absurd rfl h0); rw [show addE false kws = 0 from rfl]; clear hmt hgo hans)
    | (go_at_call_of 25 (Value.int IntKind.u64 2); refine (get_any HG.out.1 _ _).mono ?_; rintro e w3 ⟨rfl, hb3⟩; have HG3 : Hid (Mt 1 T2 w3 M L [] ns false ∧ Below w.heap.size w w3) := ⟨HG.out.1.below hb3, HG.out.2.trans (hb3.mono HG.out.2.size)⟩; clear hb3; obtain ⟨n1, n2, n3, q1, q2, q3, q4⟩ := HA.out; rw [(known_gets q1 q2 q3 q4).1]; clear q1 q2 q3 q4; unfold getV; dsimp only)
    | (go_at_call_of 25 (Value.int IntKind.u64 3); refine (get_any (HG3.out.1.below ((Below.refl _ _).alloc (Nat.le_refl _) _)) _ _).mono ?_; rintro e w4 ⟨rfl, hb4⟩; have HG4 : Hid (Mt 1 T2 w4 M L [] ns false ∧ Below w.heap.size w w4 ∧ w4.heap[w3.heap.size]? = some (.cells #[.string ⟨#[97]⟩, .int .u64 1, .bool false, .string ⟨#[49]⟩] 77)) := ⟨(HG3.out.1.below ((Below.refl _ _).alloc (Nat.le_refl _) _)).below hb4, (HG3.out.2.alloc (HG3.out.2.size) _).trans (hb4.mono (by have := HG3.out.2.size; simp; omega)), (hb4.block _ (by simp)).trans (World.alloc_heap_new _ _)⟩; clear hb4; obtain ⟨m1, m2, m3, q1, q2, q3, q4⟩ := HA.out; rw [(known_gets q1 q2 q3 q4).2.1]; clear q1 q2 q3 q4 m1 m2 m3; unfold getV; dsimp only)
    | (go_at_call_of 25 (Value.int IntKind.u64 0); refine (get_any (HG4.out.1.below ((Below.refl _ _).alloc (Nat.le_refl _) _)) _ _).mono ?_; rintro e w5 ⟨rfl, hb5⟩; have HG5 : Hid (Mt 1 T2 w5 M L [] ns false ∧ Below w.heap.size w w5 ∧ w5.heap[w3.heap.size]? = some (.cells #[.string ⟨#[97]⟩, .int .u64 1, .bool false, .string ⟨#[49]⟩] 77) ∧ w5.heap[w4.heap.size]? = some (.cells #[.string ⟨#[97]⟩, .int .u64 3, .bool true, .string ⟨#[]⟩] 77)) := ⟨(HG4.out.1.below ((Below.refl _ _).alloc (Nat.le_refl _) _)).below hb5, (HG4.out.2.1.alloc (HG4.out.2.1.size) _).trans (hb5.mono (by have := HG4.out.2.1.size; simp; omega)), ((hb5.block _ (by have := (Array.getElem?_eq_some_iff.1 HG4.out.2.2).1; simp; omega)).trans (Below.heap_alloc _ _ _ (Array.getElem?_eq_some_iff.1 HG4.out.2.2).1)).trans HG4.out.2.2, (hb5.block _ (by simp)).trans (World.alloc_heap_new _ _)⟩; clear hb5; obtain ⟨m1, m2, m3, q1, q2, q3, q4⟩ := HA.out; rw [(known_gets q1 q2 q3 q4).2.2.1]; clear q1 q2 q3 q4 m1 m2 m3; unfold getV; dsimp only)
    | (go_at_call 30; refine (all_mem2 (HG5.out.1.below ((Below.refl _ _).alloc (Nat.le_refl _) _)) (B := w5.heap.size + 1) (by simp)).mono ?_; rintro e w6 ⟨rfl, hb6, k1, k2, k3⟩; have HG6 : Hid (Mt 1 T2 w6 M L [] ns false ∧ Below w.heap.size w w6 ∧ w6.heap[w3.heap.size]? = some (.cells #[.string ⟨#[97]⟩, .int .u64 1, .bool false, .string ⟨#[49]⟩] 77) ∧ w6.heap[w4.heap.size]? = some (.cells #[.string ⟨#[97]⟩, .int .u64 3, .bool true, .string ⟨#[]⟩] 77) ∧ w6.heap[w5.heap.size]? = some (.cells #[.string ⟨#[]⟩, .int .u64 0, .bool false, .string ⟨#[]⟩] 77)) := ⟨(HG5.out.1.below ((Below.refl _ _).alloc (Nat.le_refl _) _)).below hb6, (HG5.out.2.1.alloc (HG5.out.2.1.size) _).trans (hb6.mono (by have := HG5.out.2.1.size; simp; omega)), ((hb6.block _ (by have := (Array.getElem?_eq_some_iff.1 HG5.out.2.2.1).1; simp; omega)).trans (Below.heap_alloc _ _ _ (Array.getElem?_eq_some_iff.1 HG5.out.2.2.1).1)).trans HG5.out.2.2.1, ((hb6.block _ (by have := (Array.getElem?_eq_some_iff.1 HG5.out.2.2.2).1; simp; omega)).trans (Below.heap_alloc _ _ _ (Array.getElem?_eq_some_iff.1 HG5.out.2.2.2).1)).trans HG5.out.2.2.2, (hb6.block _ (by simp)).trans (World.alloc_heap_new _ _)⟩; have hl3 : ns.length = 3 := (by obtain ⟨m1, m2, m3, q1, _⟩ := HA.out; rw [q1]; rfl); have HTA : Hid _ := taken_mem HG6.out.1 (B := w5.heap.size + 1) (by omega) hl3 k1 k2 k3; clear hb6 k1 k2 k3 hl3)
    | (go_at_call 26; refine Calls.mono HTA.out ?_; rintro e w7 ⟨a7, c7, rfl, _, _, hb7⟩; have HG7 : Hid (Mt 1 T2 w7 M L [] ns false ∧ Below w.heap.size w w7) := ⟨HG6.out.1.below hb7, HG6.out.2.1.trans (hb7.mono HG6.out.2.1.size)⟩; have ao := (hb7.block _ (Array.getElem?_eq_some_iff.1 HG6.out.2.2.1).1).trans HG6.out.2.2.1; have bo := (hb7.block _ (Array.getElem?_eq_some_iff.1 HG6.out.2.2.2.1).1).trans HG6.out.2.2.2.1; have zo := (hb7.block _ (Array.getElem?_eq_some_iff.1 HG6.out.2.2.2.2).1).trans HG6.out.2.2.2.2; have a0 : w7.cell? ⟨w3.heap.size, 0, none⟩ = some (.string ⟨#[97]⟩) := (by rw [cell_of_obj ao]; rfl); have a1 : w7.cell? ⟨w3.heap.size, 1, none⟩ = some (.int .u64 1) := (by rw [cell_of_obj ao]; rfl); have a2 : w7.cell? ⟨w3.heap.size, 2, none⟩ = some (.bool false) := (by rw [cell_of_obj ao]; rfl); have a3 : w7.cell? ⟨w3.heap.size, 3, none⟩ = some (.string ⟨#[49]⟩) := (by rw [cell_of_obj ao]; rfl); have b0 : w7.cell? ⟨w4.heap.size, 0, none⟩ = some (.string ⟨#[97]⟩) := (by rw [cell_of_obj bo]; rfl); have b1 : w7.cell? ⟨w4.heap.size, 1, none⟩ = some (.int .u64 3) := (by rw [cell_of_obj bo]; rfl); have b2 : w7.cell? ⟨w4.heap.size, 2, none⟩ = some (.bool true) := (by rw [cell_of_obj bo]; rfl); have b3 : w7.cell? ⟨w4.heap.size, 3, none⟩ = some (.string ⟨#[]⟩) := (by rw [cell_of_obj bo]; rfl); have z0 : w7.cell? ⟨w5.heap.size, 0, none⟩ = some (.string ⟨#[]⟩) := (by rw [cell_of_obj zo]; rfl); have z1 : w7.cell? ⟨w5.heap.size, 1, none⟩ = some (.int .u64 0) := (by rw [cell_of_obj zo]; rfl); have z2 : w7.cell? ⟨w5.heap.size, 2, none⟩ = some (.bool false) := (by rw [cell_of_obj zo]; rfl); have z3 : w7.cell? ⟨w5.heap.size, 3, none⟩ = some (.string ⟨#[]⟩) := (by rw [cell_of_obj zo]; rfl); clear hb7 ao bo zo)
    | (go_at_call 31; refine (weight_mem HG7.out.1).mono ?_; rintro e w8 ⟨rfl, rfl⟩; obtain ⟨m1, m2, m3, q1, q2, q3, q4⟩ := HA.out; rw [(known_gets q1 q2 q3 q4).2.2.2.1]; clear q1 q2 q3 q4 m1 m2 m3)
    | (go_at_call 32; refine (last_mem HG7.out.1).mono ?_; rintro e w9 ⟨rfl, rfl⟩; obtain ⟨m1, m2, m3, q1, q2, q3, q4⟩ := HA.out; rw [(known_gets q1 q2 q3 q4).2.2.2.2]; clear q1 q2 q3 q4 m1 m2 m3))
  go_ret
  exact ⟨rfl, HG7.out.2⟩
end Mem
end Go.Proofs.Ytcioaoanhmpdkaa
