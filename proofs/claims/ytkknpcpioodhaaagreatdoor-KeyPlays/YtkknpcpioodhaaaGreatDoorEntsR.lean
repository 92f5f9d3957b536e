import Derived.Test.YtkknpcpioodhaaaGreatDoorProg
import Derived.Test.YtkknpcpioodhaaaGreatDoorEnts
import Derived.WalkKit
import Derived.WalkSpells
import Derived.WalkLawsBesides
import Derived.Deep.QuietTactic
import Derived.BigQuiet
import Derived.Deep.RegionHeld3
import Derived.Deep.DrawnRows
import Derived.Deep.AppendLies
namespace Go.Proofs.YtkknpcpioodhaaaGreatDoor
namespace Ents
open Go.RowKit KMath Cmp Ent Chk Wei
set_option linter.unusedVariables false
attribute [local go_sem ↓] Go.wp_at_zero Go.wp_at_succ

/-- The cells of entries. -/
def cellsE (es : List En) : List Value := es.flatMap fun x => [.string x.1, .int .u64 x.2.1, .bool x.2.2.1, .string x.2.2.2]
theorem cellsE_append (l r : List En) : cellsE (l ++ r) = cellsE l ++ cellsE r := by simp [cellsE]
theorem cellsE_get (l : List En) (i : Nat) (x : En) (h : l[i]? = some x) :
    (cellsE l)[i * 4]? = some (.string x.1) ∧ (cellsE l)[i * 4 + 1]? = some (.int .u64 x.2.1) ∧ (cellsE l)[i * 4 + 2]? = some (.bool x.2.2.1) ∧ (cellsE l)[i * 4 + 3]? = some (.string x.2.2.2) := by
  induction l generalizing i with
  | nil => simp at h
  | cons y l ih =>
    cases i with
    | zero => simp at h; subst h; simp [cellsE]
    | succ i =>
      have := ih i (by simpa using h)
      simp only [cellsE, List.flatMap_cons] at this ⊢
      rw [show (i + 1) * 4 = i * 4 + 4 by omega, show i * 4 + 4 + 1 = (i * 4 + 1) + 4 by omega, show i * 4 + 4 + 2 = (i * 4 + 2) + 4 by omega, show i * 4 + 4 + 3 = (i * 4 + 3) + 4 by omega]
      rw [List.getElem?_append_right (by simp), List.getElem?_append_right (by simp), List.getElem?_append_right (by simp), List.getElem?_append_right (by simp)]
      simpa using this
theorem rowE_of_own {w : World} {base n : Nat} {v : Value} {es : List En} {e : TypeId} (h : w.ownsRow base e 4 v n (cellsE es)) (hn : n = es.length) : ∃ a c, v = .slice a n c ∧ IsEn w a es := by
  rcases h.2 with ⟨hv, h0⟩ | ⟨g, c, cur, hv, _⟩
  · subst h0
    have : es = [] := List.eq_nil_of_length_eq_zero hn.symm
    subst this
    exact ⟨none, 0, hv, fun hne => absurd rfl hne⟩
  · subst hv
    refine ⟨some ⟨g, 0, none⟩, c, rfl, fun _ => ⟨g, 0, rfl, (h.lt g rfl).2, fun i x hx => ?_⟩⟩
    have hi : i < es.length := (List.getElem?_eq_some_iff.1 hx).1
    obtain ⟨h0, h1, h2, h3⟩ := cellsE_get es i x hx
    refine ⟨?_, ?_, ?_, ?_⟩
    · rw [Nat.zero_add, h.cellAt _ (by omega)]; exact h0
    · rw [Nat.zero_add, h.cellAt _ (by omega)]; exact h1
    · rw [Nat.zero_add, h.cellAt _ (by omega)]; exact h2
    · rw [Nat.zero_add, h.cellAt _ (by omega)]; exact h3
theorem ents_take {first : Int} {ws : List Wr} {k : Nat} {kk : ByteArray} {dd : Bool} {vv : ByteArray} (hx : ws[k]? = some (kk, dd, vv)) :
    cellsE ((ents first ws).take (k + 1)) = cellsE ((ents first ws).take k) ++ [.string kk, .int .u64 (IntKind.u64.wrap (first + (k : Int))), .bool dd, .string (val dd vv)] := by
  have he := ents_get (first := first) hx
  obtain ⟨hk, he'⟩ := List.getElem?_eq_some_iff.1 he
  rw [List.take_succ_eq_append_getElem hk, cellsE_append, he']
  rfl

theorem wrap_k (k : Nat) (h : k ≤ 100000) : IntKind.u64.wrap (k : Int) = (k : Int) := by
  rw [IntKind.wrap_u64]; omega
theorem news_two (w : World) (o : Obj) (cs : Array Value) (t : TypeId) : ∀ j u, cs.toList[j]? = some u → (((w.alloc o).alloc (.cells cs t)).drew).cell? ((⟨w.heap.size + 1, 0, none⟩ : Addr).add j) = some u := by
  have h := World.news_of_block (heap_alloc_new (w.alloc o) (.cells cs t))
  have e : (w.alloc o).heap.size = w.heap.size + 1 := by simp
  rw [e] at h
  exact h

set_option maxHeartbeats 2000000 in
theorem refEntries_any (first : Int) (a : Option Addr) (cap : Nat) (ws : List Wr) (w : World) (h : IsWr w a ws) (hl : ws.length ≤ 100000) :
    Calls Tryz.prog 20 #[.int .u64 first, .slice a ws.length cap] w fun e w' => ∃ a' c', e = .returned (.slice a' ws.length c') ∧ IsEn w' a' (ents first ws) ∧ Below w.heap.size w w' := by
  obtain ⟨hrow, hlen, _⟩ := h
  unfold maxLen at hlen
  have HROW : Hid (ws ≠ [] → ∃ b off, a = some ⟨b, off, none⟩ ∧ WrRow w b off ws) := hrow
  clear hrow
  obtain ⟨i54, hi, hz0, hz1, hz2⟩ := info_parts info54
  go_enter Tryz.func20, Tryz.ntmps20
  go_wp2
  go_loopw [5, 6, 7] (fun v i _ wr => ∃ k : Nat, k ≤ ws.length ∧ i = .int .i64 k ∧ wr.ownsRow w.heap.size 49 4 v k (cellsE ((ents first ws).take k)) ∧ Below w.heap.size w wr) (fun _ i _ _ => ws.length - (intOf i).toNat)
  case atStart => exact ⟨0, Nat.zero_le _, rfl, World.ownsRow_nil _ _ _ _, Below.refl _ _⟩
  case round =>
    obtain ⟨k, hk, rfl, hown, hbe⟩ := hrel
    by_cases hlt : k < ws.length
    · obtain ⟨b, off, rfl, hr⟩ := HROW.out (by intro e; rw [e] at hlt; simp at hlt)
      obtain ⟨kk, dd, vv, hx⟩ : ∃ kk dd vv, ws[k]? = some (kk, dd, vv) := ⟨_, _, _, List.getElem?_eq_getElem hlt⟩
      have hr' := hr.below hbe hr.1
      have hbz := hr'.1
      obtain ⟨c0, c1, c2⟩ := hr'.2 k _ hx
      have HX : Hid (cellsE ((ents first ws).take (k + 1)) = cellsE ((ents first ws).take k) ++ [.string kk, .int .u64 (IntKind.u64.wrap (first + (k : Int))), .bool dd, .string (val dd vv)]) := ents_take hx
      clear hx hr hr'
      dsimp only at c0 c1 c2
      have q1 : (k : Int) < (ws.length : Int) := by omega
      have q0 : (0 : Int) ≤ (k : Int) := by omega
      have HO : Hid (wr.ownsRow w.heap.size 49 4 _ k (cellsE ((ents first ws).take k))) := hown
      have HB : Hid (Below w.heap.size w wr) := hbe
      have hsz := hbe.size
      have hne1 : (b == wr.heap.size) = false := beq_eq_false_iff_ne.2 (by omega)
      clear hown hbe
      have ek : IntKind.u64.wrap (k : Int) = (k : Int) := wrap_k k (by omega)
      cases dd with
      | true =>
        go_wp2
        go_region_held3 (fun w' => w'.cell? ⟨b, off + k * 3, none⟩ = some (.string kk) ∧ w'.cell? ⟨b, off + k * 3 + 1, none⟩ = some (.bool true) ∧ w'.cell? ⟨b, off + k * 3 + 2, none⟩ = some (.string vv)) (first | (simp [go_sem, World.cell?_alloc_past, *]; done) | go_keep) (fail)
        clear ek
        go_wp2_with (at_builtin; refine wpList_append_own _ (by rfl) (.tmp 38) (.tmp 40) 66 (by rfl) w.heap.size 49 i54 _ 4 48 Tryz.underlying66 hi hz0 hz1 hz2 rfl (by omega) _ k (cellsE ((ents first ws).take k)) (by rfl) (((HO.out.alloc _).alloc _).drew) ⟨wr.heap.size + 1, 0, none⟩ 1 1 [.string kk, .int .u64 (IntKind.u64.wrap (first + (k : Int))), .bool true, .string ⟨#[]⟩] (by rfl) (by rfl) (news_two _ _ _ _) (by intro u hu; simp at hu; rcases hu with rfl | rfl | rfl | rfl <;> rfl) (by unfold maxLen; omega) (by omega) (by simp; omega) ?_; intro v2 w2 hown2 hgr2 _; have HG2 : Hid (Below w.heap.size w w2) := ((((HB.out.alloc hsz _).alloc (by simp; omega) _).drew).grown hgr2 (by simp; omega) (fun j hj => (HO.out.lt j hj).1)); have HO2 : Hid (w2.ownsRow w.heap.size 49 4 v2 (k + 1) (cellsE ((ents first ws).take k) ++ [.string kk, .int .u64 (IntKind.u64.wrap (first + (k : Int))), .bool true, .string ⟨#[]⟩])) := hown2; clear hgr2 hown2)
        go_roundw
        case rel => exact ⟨k + 1, by omega, by go_num, by rw [HX.out]; exact HO2.out, HG2.out⟩
        case measure => simp [intOf]; omega
      | false =>
        go_wp2
        go_region_held3 (fun w' => w'.cell? ⟨b, off + k * 3, none⟩ = some (.string kk) ∧ w'.cell? ⟨b, off + k * 3 + 1, none⟩ = some (.bool false) ∧ w'.cell? ⟨b, off + k * 3 + 2, none⟩ = some (.string vv)) (first | (simp [go_sem, World.cell?_alloc_past, *]; done) | go_keep) (fail)
        clear ek
        go_wp2_with (at_builtin; refine wpList_append_own _ (by rfl) (.tmp 38) (.tmp 40) 66 (by rfl) w.heap.size 49 i54 _ 4 48 Tryz.underlying66 hi hz0 hz1 hz2 rfl (by omega) _ k (cellsE ((ents first ws).take k)) (by rfl) (((HO.out.alloc _).alloc _).drew) ⟨wr.heap.size + 1, 0, none⟩ 1 1 [.string kk, .int .u64 (IntKind.u64.wrap (first + (k : Int))), .bool false, .string vv] (by rfl) (by rfl) (news_two _ _ _ _) (by intro u hu; simp at hu; rcases hu with rfl | rfl | rfl | rfl <;> rfl) (by unfold maxLen; omega) (by omega) (by simp; omega) ?_; intro v2 w2 hown2 hgr2 _; have HG2 : Hid (Below w.heap.size w w2) := ((((HB.out.alloc hsz _).alloc (by simp; omega) _).drew).grown hgr2 (by simp; omega) (fun j hj => (HO.out.lt j hj).1)); have HO2 : Hid (w2.ownsRow w.heap.size 49 4 v2 (k + 1) (cellsE ((ents first ws).take k) ++ [.string kk, .int .u64 (IntKind.u64.wrap (first + (k : Int))), .bool false, .string vv])) := hown2; clear hgr2 hown2)
        go_roundw
        case rel => exact ⟨k + 1, by omega, by go_num, by rw [HX.out]; exact HO2.out, HG2.out⟩
        case measure => simp [intOf]; omega
    · go_wp2
      go_ret
      have hkk : k = ws.length := by omega
      subst hkk
      rw [List.take_of_length_le (by rw [ents_length]; exact Nat.le_refl _)] at hown
      obtain ⟨a', c', hv, hE⟩ := rowE_of_own hown (ents_length _ _).symm
      exact ⟨a', c', by rw [← hv]; rfl, hE, hbe⟩

set_option maxHeartbeats 1000000 in
theorem sameEntries_any (a b : Option Addr) (ca cb n : Nat) (es : List En) (w : World) (ha : IsEn w a es) (hb : IsEn w b es) (hn : es.length = n) (hl : n ≤ 100000) :
    Calls Tryz.prog 19 #[.slice a n ca, .slice b n cb] w fun e w' => e = .returned (.bool true) ∧ ∃ n, w' = w.drewN n := by
  have HA : Hid (es ≠ [] → ∃ b off, a = some ⟨b, off, none⟩ ∧ EnRow w b off es) := ha
  have HB : Hid (es ≠ [] → ∃ b' off, b = some ⟨b', off, none⟩ ∧ EnRow w b' off es) := hb
  have HNN : Hid (es.length = n) := hn
  clear ha hb hn
  go_enter Tryz.func19, Tryz.ntmps19
  go_wp2
  go_loopw [5] (fun i wr => ∃ k m : Nat, k ≤ n ∧ i = .int .i64 k ∧ wr = w.drewN m) (fun i _ => n - (intOf i).toNat)
  case atStart => exact ⟨0, 0, Nat.zero_le _, rfl, rfl⟩
  case round =>
    obtain ⟨k, m, hk, rfl, rfl⟩ := hrel
    by_cases hlt : k < n
    · have hlt' : k < es.length := by rw [HNN.out]; exact hlt
      have hne : es ≠ [] := by intro e; rw [e] at hlt'; simp at hlt'
      obtain ⟨b1, o1, rfl, hr1⟩ := HA.out hne
      obtain ⟨b2, o2, rfl, hr2⟩ := HB.out hne
      obtain ⟨kk, ss, dd, vv, hx⟩ : ∃ kk ss dd vv, es[k]? = some (kk, ss, dd, vv) := ⟨_, _, _, _, List.getElem?_eq_getElem hlt'⟩
      obtain ⟨c0, c1, c2, c3⟩ := hr1.2 k _ hx
      obtain ⟨e0, e1, e2, e3⟩ := hr2.2 k _ hx
      dsimp only at c0 c1 c2 c3 e0 e1 e2 e3
      have q1 : (k : Int) < (n : Int) := by omega
      clear hx hne hlt'
      go_wp2
      go_quiet (fail)
      go_wp2
      go_roundw
      case rel => exact ⟨k + 1, _, by omega, by go_num, rfl⟩
      case measure => simp [intOf]; omega
    · go_wp2
      go_ret
      exact ⟨rfl, _, rfl⟩

end Ents
end Go.Proofs.YtkknpcpioodhaaaGreatDoor
