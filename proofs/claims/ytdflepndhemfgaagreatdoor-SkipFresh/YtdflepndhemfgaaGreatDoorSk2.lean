import Derived.Test.YtdflepndhemfgaaGreatDoorSk1
namespace Go.Proofs.YtdflepndhemfgaaGreatDoor
namespace Sk
open Go.RowKit Go.Shelf Laws Irw Erw KMath Skm
set_option linter.unusedVariables false
set_option maxRecDepth 100000
attribute [local go_sem] Oper.semAt_some

theorem behind_in (n : Nat) (p : Option Addr) (i : Int) (w : World) :
    CallsIn Fence.wide n Tryz.prog 19 #[.pointer p, .int .i64 i] w fun e w' => e = .returned (.func (.func 46) #[] #[.pointer (some ⟨w.heap.size, 0, none⟩), .pointer (some ⟨w.heap.size + 1, 0, none⟩)]) ∧ w' = (w.alloc (.cells #[.pointer p] 69)).alloc (.cells #[.int .i64 i] 3) := by
  refine callsIn_of_wp Tryz.func19 rfl trivial ?_ rfl
  simp only [Tryz.ntmps19, List.size_toArray, List.length_cons, List.length_nil, Nat.reduceAdd, Nat.reduceSub, Array.replicate_succ, Array.replicate_zero, List.push_toArray, List.append_toArray, List.nil_append, List.cons_append]
  gi_wp2
  go_ret
  exact ⟨rfl, rfl⟩

theorem behind_stops (n : Nat) (hn : 1 ≤ n) (Bn Bi i : Nat) (hi : i < 12) (sb sh : Nat) (hsh : i < sh) (r ns : List Nd) (hsub : ∃ z, ns = z ++ r) (w : World) (hBn : w.cell? ⟨Bn, 0, none⟩ = some (.pointer (some ⟨sb, 0, none⟩))) (hBi : w.cell? ⟨Bi, 0, none⟩ = some (.int .i64 (i : Int))) (hT : Tow w sb sh r) (hsb : sb < w.heap.size) (hC : Chain w ns) :
    SeqStopsK Fence.wide n Tryz.prog 46 #[.pointer (some ⟨Bn, 0, none⟩), .pointer (some ⟨Bi, 0, none⟩)] (encN (ns := ns)) (Kp ns Bn Bi) (fun ys => ys.map Subtype.val = lev i r) (fun pre => pre.map Subtype.val <+: lev i r) ns.length w := fun l J Jx W hW hJ hJx hY h0 => by
  have h1 := World.block_lt_of_cell? w _ hBn
  have h2 := World.block_lt_of_cell? w _ hBi
  exact behind1_in n hn l Bn Bi i hi sb sh hsh r ns hsub J Jx W.heap.size hJ hY W ((hW.cell (p := ⟨Bn, 0, none⟩) h1).trans hBn) ((hW.cell (p := ⟨Bi, 0, none⟩) h2).trans hBi) (hT.keep (hW.block sb hsb)) (hC.keep fun m hm => hW.block _ (hC.lt hm)) h0

/-- Marks that a function leaves behind: they are taken in, one by one. -/
theorem leaves_marks {F : Fence} {n : Nat} {P : Program} {fn : Func} {tmps : Array Value} {R : Ending → World → Prop} {B0 : Nat} : ∀ (Ds : List Nat) (w : World), (∀ D ∈ Ds, B0 ≤ D ∧ w.heap[D]? = some (.deferred (some []))) → Ds.Nodup →
    (∀ w', Below B0 w w' → (∀ b, b ∉ Ds → w'.heap[b]? = w.heap[b]?) → LeavesIn F n P fn tmps R [] .returning w') → LeavesInM F n P fn tmps R (Ds.map fun D => { target := .collected D, args := #[] }) .returning w
  | [], w, _, _, h => h w (Below.refl _ _) (fun _ _ => rfl)
  | D :: Ds, w, hD, hnd, h => by
    obtain ⟨hnD, hnd'⟩ := List.nodup_cons.1 hnd
    obtain ⟨hle, hobj⟩ := hD D List.mem_cons_self
    have hb1 : Below B0 w (w.putObj D (.deferred none)) := ⟨rfl, rfl, rfl, by simp, fun k hk => World.putObj_heap_other (by omega)⟩
    refine ⟨by simp, .inl ⟨_, _, rfl, run_takeDeferred hobj, ?_⟩⟩
    refine leaves_marks Ds _ (fun E hE => ⟨(hD E (List.mem_cons_of_mem _ hE)).1, ?_⟩) hnd' (fun w' hb hk => h w' (hb1.trans hb) fun b hb' => ?_)
    · rw [World.putObj_heap_other (by rintro rfl; exact hnD hE)]
      exact (hD E (List.mem_cons_of_mem _ hE)).2
    · rw [List.mem_cons, not_or] at hb'
      rw [hk b hb'.2, World.putObj_heap_other hb'.1]
theorem not_mark {w : World} {Ds : List Nat} {B0 : Nat} (hD : ∀ D ∈ Ds, B0 ≤ D ∧ w.heap[D]? = some (.deferred (some []))) {b o : Nat} {v : Value} (h : w.cell? ⟨b, o, none⟩ = some v) : b ∉ Ds := fun hm => by
  have := (hD b hm).2
  simp [World.cell?, this] at h
end Sk
end Go.Proofs.YtdflepndhemfgaaGreatDoor
