import Derived.Test.YtanpbknjnpmmnaaMr3
namespace Go.Proofs.Ytanpbknjnpmmnaa
namespace Mnf
open Go.RowKit CMath Byt Cod Crw Irw Laws
set_option linter.unusedVariables false
set_option linter.unusedSimpArgs false
set_option maxRecDepth 20000
theorem rdPd_L (l : List Nat) : rdPd l = (rdPl l).bind fun p => (rdL (rdI M63) 3 p.2).bind fun s => (rdL rdK 2 s.2).bind fun h => match s.1, h.1 with
    | [a, b, c], [d, e] => some ((⟨p.1.1, p.1.2, a, b, c, d, e⟩ : Pd), h.2)
    | _, _ => none := by
  unfold rdPd rdMap rdT rd2
  cases rdPl l with
  | none => rfl
  | some p =>
    obtain ⟨p1, p2⟩ := p
    simp only [Option.bind_some, rdL]
    cases rdI M63 p2 with
    | none => rfl
    | some x =>
      obtain ⟨x1, x2⟩ := x
      simp only [Option.bind_some]
      cases rdI M63 x2 with
      | none => rfl
      | some y =>
        obtain ⟨y1, y2⟩ := y
        simp only [Option.bind_some]
        cases rdI M63 y2 with
        | none => rfl
        | some z =>
          obtain ⟨z1, z2⟩ := z
          simp only [Option.bind_some, Option.map_some]
          cases rdK z2 with
          | none => rfl
          | some u =>
            obtain ⟨u1, u2⟩ := u
            simp only [Option.bind_some]
            cases rdK u2 with
            | none => rfl
            | some v => rfl
def pdC (p : Pd) : List Value := [.int .i64 p.lv, .int .u64 (p.no : Int), .int .i64 p.we, .int .i64 p.by_, .int .i64 p.en, .string p.le, .string p.gr]
theorem res_pd {fn : Func} {p u v : Tmp} (h : fn.results = #[.cell p 87, .tmp u, .tmp v]) (tmps : Array Value) (w : World) (B : Nat) (x : Pd) (hp : tmps.getD p undef = .pointer (some ⟨B, 0, none⟩)) (hz : Zb w B (pdC x)) :
    (results fn tmps).run Try.prog w = .ok (.tuple #[pdV x, tmps.getD u undef, tmps.getD v undef]) w := by
  have c0 := hz.2.1 0 _ rfl
  have c1 := hz.2.1 1 _ rfl
  have c2 := hz.2.1 2 _ rfl
  have c3 := hz.2.1 3 _ rfl
  have c4 := hz.2.1 4 _ rfl
  have c5 := hz.2.1 5 _ rfl
  have c6 := hz.2.1 6 _ rfl
  simp only [results, h]
  have hp' : tmps[p]?.getD undef = .pointer (some ⟨B, 0, none⟩) := by simpa using hp
  simp [Sem.run_bind, Result.andThen, hp', go_sem, c0, c1, c2, c3, c4, c5, c6, pdV, tbV]
def zPd : List Value := [.int .i64 0, .int .u64 0, .int .i64 0, .int .i64 0, .int .i64 0, .string ⟨#[]⟩, .string ⟨#[]⟩]
def ints (ns : List Int) : List Value := ns.map fun (n : Int) => Value.int .i64 n
def strs (ns : List ByteArray) : List Value := ns.map fun (n : ByteArray) => Value.string n
theorem Zb.sets_other {w : World} {B g : Nat} {vs us : List Value} (h : Zb w B vs) (j : Nat) (hg : B ≠ g) : Zb (Mnf.sets w g j us) B vs :=
  h.keep (sets_block w g B hg us j) (by rw [sets_size]; exact Nat.le_refl _)
set_option maxHeartbeats 1000000 in
theorem readPlaced_no1 (a : Option Addr) (L : Nat) (l : List Nat) (w : World) (h : IsB w a l) (hL : l.length = L) (hm : L ≤ 9223372036854775807) (hr : rdPl l = none) :
    Calls Try.prog 46 #[.slice a L L] w fun e w' => RdNo (pdV noPd) w e w' := by
  have HI : Hid (IsB w a l) := h
  have HL : Hid (l.length = L) := hL
  have HR : Hid (rdPl l = none) := hr
  clear h hL hr
  go_enter Try.func46, Try.ntmps46
  go_wp2_with (first
    | (go_at_call 44; go_loud (refine (readPlace_no a L l _ (HI.out.below ((Below.refl _ _).alloc (Nat.le_refl _) _)) HL.out hm HR.out).mono ?_; rintro e w1 ⟨he, hb1⟩; subst he; unfold plV; have HX : Hid (Zb w1 w.heap.size zPd ∧ Below w.heap.size w w1) := ⟨(Zb.new w #[.int .i64 0, .int .u64 0, .int .i64 0, .int .i64 0, .int .i64 0, .string ⟨#[]⟩, .string ⟨#[]⟩] _).below hb1, ((Below.refl _ _).alloc (Nat.le_refl _) _).trans (hb1.mono (by simp))⟩; have hlt := HX.out.1.1; have d0 := HX.out.1.2.1 0 _ rfl; have d1 := HX.out.1.2.1 1 _ rfl; have d2 := HX.out.1.2.1 2 _ rfl; have d3 := HX.out.1.2.1 3 _ rfl; have d4 := HX.out.1.2.1 4 _ rfl; have d5 := HX.out.1.2.1 5 _ rfl; have d6 := HX.out.1.2.1 6 _ rfl; have f0 := HX.out.1.2.2 0; have f1 := HX.out.1.2.2 1; have f2 := HX.out.1.2.2 2; have f3 := HX.out.1.2.2 3; have f4 := HX.out.1.2.2 4; have f5 := HX.out.1.2.2 5; have f6 := HX.out.1.2.2 6; clear hb1)))
  have hz := (HX.out.1.sets (vs := zPd) (by simp)).below ((Below.refl _ _).alloc (Nat.le_refl _) (.cells #[.int .i64 0, .int .u64 0] 83))
  have hb2 : Below w.heap.size w (sets w1 w.heap.size 0 zPd) := sets_below w.heap.size (Nat.le_refl _) zPd 0 HX.out.2
  have hb3 := hb2.alloc (by rw [sets_size]; exact HX.out.2.size) (.cells #[.int .i64 0, .int .u64 0] 83)
  refine bodyPost_ret (res_pd rfl _ _ w.heap.size noPd (by rfl) hz) rfl ?_
  exact ⟨rfl, hb3⟩
end Mnf
end Go.Proofs.Ytanpbknjnpmmnaa
