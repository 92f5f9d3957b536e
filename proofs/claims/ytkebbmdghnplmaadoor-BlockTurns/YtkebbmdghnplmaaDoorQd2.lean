import Derived.Test.YtkebbmdghnplmaaDoorQd1
import Derived.BigQuiet
import Derived.Deep.LoopGhost
import Derived.Deep.Draws
import Derived.Deep.QuietTactic
namespace Go.Proofs.YtkebbmdghnplmaaDoor
namespace Qb
open Go.RowKit Go.Shelf CMath Byt Laws Irw Crw Cod Qe
set_option linter.unusedVariables false
set_option linter.unusedSimpArgs false
set_option maxRecDepth 100000

/-- a world in which nothing from before has turned -/
structure Unb (w : World) where
  W : World
  ok : Below w.heap.size w W
theorem Unb.non (w : World) : Nonempty (Unb w) := ⟨⟨w, Below.refl _ _⟩⟩
theorem wp_region_unb {P : Program} {id : Nat} {Q : Exit → Act → World → Prop} {a : Act} {w : World} {l : List Oper} (hm : P.follows .mixedOrders = true) (hB : Region.lexB .any l.toArray = true)
    (h : wpQuiet P l.toArray (fun w' => ∃ V : Unb w, w' = V.W) (fun a' => ∀ w', Below w.heap.size w w' → Q .normal a' w') l a) : (Code.region id l.toArray true).wp P Q a w := by
  have e : (fun a' => ∀ w', Below w.heap.size w w' → Q .normal a' w') = (fun a' => ∀ w', (∃ V : Unb w, w' = V.W) → Q .normal a' w') := by
    funext a'
    exact propext ⟨fun k w' ⟨V, e⟩ => k w' (e ▸ V.ok), fun k w' hb => k w' ⟨⟨w', hb⟩, rfl⟩⟩
  rw [e] at h
  exact wp_region_quiet (C := fun w' => ∃ V : Unb w, w' = V.W) hm hB ⟨⟨w.drew, (Below.refl _ _).drew⟩, rfl⟩ (by simpa using h)
theorem Unb.cell {w : World} {p : Addr} {v : Value} (h : w.cell? p = some v) (V : Unb w) : V.W.cell? p = some v := (V.ok.cell (World.block_lt_of_cell? w _ h)).trans h
theorem Unb.call {P : Program} {f : Nat} {args : Array Value} {w : World} {V : Unb w} {v : Value} (h : Calls P f args V.W fun e w' => e = .returned v ∧ Below V.W.heap.size V.W w') : Calls P f args V.W fun e w'' => e = .returned v ∧ ∃ V' : Unb w, w'' = V'.W :=
  h.mono fun _ w' ⟨he, hb⟩ => ⟨he, ⟨w', V.ok.trans (hb.mono V.ok.size)⟩, rfl⟩
theorem binOp_string_gtr_q (t : TypeId) (a b : ByteArray) : binOp .gtr t (.string a) (.string b) = pure (.bool !(Op.bytesLess a.toList b.toList || a.toList == b.toList)) := by simp [binOp, Op.stringOp]
attribute [local go_sem] binOp_string_gtr_q
/-- Is the key at a restart point above a key? -/
def gtK (x y : ByteArray) : Bool := !(Op.bytesLess x.toList y.toList || x.toList == y.toList)
set_option maxHeartbeats 1000000 in
theorem restartForC_any (w : World) (Bk Bq K o i : Nat) (key : ByteArray) (eb pb : List Nat) (hk : BlkZ w K o eb pb)
    (hBk : w.cell? ⟨Bk, 0, none⟩ = some (.pointer (some ⟨K, o, none⟩))) (hBq : w.cell? ⟨Bq, 0, none⟩ = some (.string key)) (hi : 4 * i + 4 ≤ pb.length) (hpl : val ((pb.drop (4 * i)).take 4) ≤ eb.length) :
    Calls Tryd.prog 81 #[.int .i64 (i : Int), .pointer (some ⟨Bk, 0, none⟩), .pointer (some ⟨Bq, 0, none⟩)] w fun e w' => e = .returned (.bool (gtK (keyOf eb (val ((pb.drop (4 * i)).take 4))) key)) ∧ Below w.heap.size w w' := by
  have HK : Hid (BlkZ w K o eb pb) := hk
  have HP : Hid (∀ V : Unb w, Calls Tryd.prog 68 #[.pointer (some ⟨K, o, none⟩), .int .i64 (i : Int)] V.W fun e w' => e = .returned (.int .i64 ((val ((pb.drop (4 * i)).take 4) : Nat) : Int)) ∧ Below V.W.heap.size V.W w') := fun V => by
    obtain ⟨a', c', ce', hie', hec', hc', _⟩ := (HK.out.below V.ok).pla
    exact (place_any V.W K o a' pb pb.length c' i ce' hie' rfl hec' hc'.1 hi hc'.2).mono fun e w' ⟨h1, h2⟩ => ⟨h1, by rw [h2]; exact Below.refl _ _⟩
  have HQ : Hid (∀ V : Unb w, Calls Tryd.prog 82 #[.pointer (some ⟨K, o, none⟩), .int .i64 ((val ((pb.drop (4 * i)).take 4) : Nat) : Int)] V.W fun e w' => e = .returned (.string (keyOf eb (val ((pb.drop (4 * i)).take 4)))) ∧ Below V.W.heap.size V.W w') := fun V => keyAt_any V.W K o _ eb pb (HK.out.below V.ok) hpl
  clear hk hi hpl
  generalize keyOf eb (val ((pb.drop (4 * i)).take 4)) = kk at *
  generalize val ((pb.drop (4 * i)).take 4) = pl at *
  unfold gtK
  go_enter Tryd.func81, Tryd.ntmps81
  go_wp2
  refine wp_region_unb (by kernel_rfl) (by kernel_rfl) ?_
  have hne9 := Unb.non w
  have U0 := Unb.cell hBk
  have U1 := Unb.cell hBq
  repeat (go_big_quiet_step (first | (go_at_call 68; exact Unb.call (HP.out _)) | (go_at_call 82; exact Unb.call (HQ.out _))))
  refine wpQuiet_nil ?_
  intro wA hb9
  have HB9 : Hid (Below w.heap.size w wA) := hb9
  clear hb9 U0 U1 hne9
  go_wp2
  go_ret
  exact ⟨by simp, HB9.out⟩
set_option maxHeartbeats 4000000 in
theorem search_any (g : Nat) (cb : Array Value) (n : Nat) (p : Nat → Bool) (w : World) (eg : ∀ args w, (callFunc g args).run Tryd.prog w = .ok (.enter g args) w) (hsz : n < 4611686018427387904)
    (hf : ∀ (W : World) (i : Nat), Below w.heap.size w W → i < n → Calls Tryd.prog g (#[.int .i64 i] ++ cb) W fun e w' => e = .returned (.bool (p i)) ∧ Below W.heap.size W w')
    (hmono : ∀ a b, a ≤ b → b < n → p a = true → p b = true) :
    Calls Tryd.prog 80 #[.int .i64 n, .func (.func g) #[] cb] w fun e w' => ∃ m : Nat, e = .returned (.int .i64 (m : Int)) ∧ m ≤ n ∧ (∀ t, t < m → p t = false) ∧ (∀ t, m ≤ t → t < n → p t = true) ∧ Below w.heap.size w w' := by
  have HF : Hid (∀ (W : World) (i : Nat), Below w.heap.size w W → i < n → Calls Tryd.prog g (#[.int .i64 i] ++ cb) W fun e w' => e = .returned (.bool (p i)) ∧ Below W.heap.size W w') := hf
  have M : Hid (∀ a b, a ≤ b → b < n → p a = true → p b = true) := hmono
  clear hf hmono
  go_enter Tryd.func80, Tryd.ntmps80
  go_wp2
  go_loopw [5, 6] (fun s5 s6 wr => ∃ (lo hi : Nat), s5 = .int .i64 lo ∧ s6 = .int .i64 hi ∧ lo ≤ hi ∧ hi ≤ n ∧ Hid (Below w.heap.size w wr ∧ (∀ t, t < lo → p t = false) ∧ (∀ t, hi ≤ t → t < n → p t = true))) (fun a b _ => (intOf b).toNat - (intOf a).toNat)
  case atStart => exact ⟨0, n, rfl, rfl, Nat.zero_le _, Nat.le_refl _, Below.refl _ _, fun t ht => absurd ht (Nat.not_lt_zero _), fun t h1 h2 => by omega⟩
  case round =>
    obtain ⟨lo, hi, rfl, rfl, hlh, hin, I⟩ := hrel
    by_cases hlt : lo < hi
    · have hc := HF.out wr ((lo + hi) / 2) I.out.1 (by omega)
      rw [show (((lo + hi) / 2 : Nat) : Int) = ((lo : Int) + (hi : Int)) / 2 by omega] at hc
      cases hp : p ((lo + hi) / 2) <;> rw [hp] at hc
      · have HP : Hid (p ((lo + hi) / 2) = false) := hp
        clear hp
        go_wp2_with (go_at_fn g; refine hc.mono ?_; rintro e w' ⟨rfl, hbw⟩; have HBW : Hid (Below wr.heap.size wr w') := hbw; clear hbw)
        go_roundw
        case measure => simp [intOf]; omega
        case rel =>
          exact ⟨(lo + hi) / 2 + 1, hi, by rw [show ((lo : Int) + (hi : Int)) / 2 + 1 = (((lo + hi) / 2 + 1 : Nat) : Int) by omega], rfl, by omega, hin, I.out.1.trans (HBW.out.mono I.out.1.size), fun t ht => (by
            cases h : p t with
            | false => rfl
            | true => have := M.out t ((lo + hi) / 2) (by omega) (by omega) h; rw [HP.out] at this; cases this), I.out.2.2⟩
      · have HP : Hid (p ((lo + hi) / 2) = true) := hp
        clear hp
        go_wp2_with (go_at_fn g; refine hc.mono ?_; rintro e w' ⟨rfl, hbw⟩; have HBW : Hid (Below wr.heap.size wr w') := hbw; clear hbw)
        go_roundw
        case measure => simp [intOf]; omega
        case rel =>
          exact ⟨lo, (lo + hi) / 2, rfl, by rw [show ((lo : Int) + (hi : Int)) / 2 = (((lo + hi) / 2 : Nat) : Int) by omega], by omega, by omega, I.out.1.trans (HBW.out.mono I.out.1.size), I.out.2.1, fun t ht htn => M.out ((lo + hi) / 2) t ht htn HP.out⟩
    · obtain rfl : hi = lo := by omega
      go_wp2
      go_ret
      exact ⟨hi, rfl, hin, I.out.2.1, I.out.2.2, I.out.1⟩
end Qb
end Go.Proofs.YtkebbmdghnplmaaDoor
