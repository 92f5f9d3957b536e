import Derived.Test.YtbloifnibgdeoaaDKp6
import Derived.Test.YtbloifnibgdeoaaDKp5
namespace Go.Proofs.Ytbloifnibgdeoaa
namespace Dsk
open Go.RowKit Go.Shelf Go.Maps Go.Sort Byt Laws
set_option linter.unusedVariables false
set_option maxRecDepth 100000
set_option linter.unusedSimpArgs false

/-- A call of a script, as it lies. -/
structure OpD where
  kind : Int
  name : ByteArray
  too : ByteArray
  data : List Nat
  da : Option Addr
  dc : Nat
  x : Int
  y : Int
  z : Int
  keep : List Int
  ka : Option Addr
  kc : Nat
def OpD.cells (o : OpD) : List Value := [.int .i64 o.kind, .string o.name, .string o.too, .slice o.da o.data.length o.dc, .int .i64 o.x, .int .i64 o.y, .int .i64 o.z, .slice o.ka o.keep.length o.kc]
structure OpOk (w : World) (o : OpD) : Prop where
  isB : IsB w o.da o.data
  dn : o.da = none → o.dc = 0
  dl : o.data.length ≤ o.dc
  dm : o.dc ≤ 9223372036854775807
  ints : IntsAt w o.ka o.keep
  kn : o.ka = none → o.kc = 0
  kl : o.keep.length ≤ o.kc
  km : o.kc ≤ 9223372036854775807
  kw : ∀ v ∈ o.keep, v ≤ 9223372036854775807
  nm : o.name.size ≤ maxLen ∧ o.too.size ≤ maxLen
  big : o.data.length ≤ 140737488355328 ∧ o.keep.length ≤ 140737488355328
  num : (o.kind ≤ 9223372036854775807 ∧ -9223372036854775808 ≤ o.kind) ∧ o.x ≤ 9223372036854775807 ∧ o.y ≤ 9223372036854775807 ∧ o.z ≤ 9223372036854775807
structure OpsAt (w : World) (a : Option Addr) (os : List OpD) : Prop where
  at_ : ∀ (k : Nat) (o : OpD), os[k]? = some o → ∃ b off, a = some ⟨b, off, none⟩ ∧ b < w.heap.size ∧ ∀ t, t < 8 → w.cell? ⟨b, off + k * 8 + t, none⟩ = o.cells[t]?
  ok : ∀ o ∈ os, OpOk w o
def sumO (os : List OpD) : Nat := (os.map fun o => o.data.length + o.keep.length).sum
theorem sumO_take {os : List OpD} {k : Nat} {o : OpD} (h : os[k]? = some o) : sumO (os.take (k + 1)) = sumO (os.take k) + (o.data.length + o.keep.length) := by
  unfold sumO
  rw [List.take_add_one, h]
  simp
set_option maxHeartbeats 1000000 in
/-- What the law's small tells of a script alone. -/
theorem small_ops (a : Option Addr) (n c : Nat) (os : List OpD) (w : World) (h : OpsAt w a os) (hn : n = os.length) (hc : n ≤ c) (hc2 : c ≤ 9223372036854775807) :
    Calls Try.prog 9 #[.slice none 0 0, .slice a n c] w fun e w' => (∃ b : Bool, e = .returned (.bool b) ∧ (b = true → sumO os ≤ 1048576 ∧ os.length ≤ 400)) ∧ ∃ q, w' = w.drewN q := by
  have HF : Hid (OpsAt w a os) := h
  have HN : Hid (n = os.length) := hn
  clear h hn
  go_enter Try.func9, Try.ntmps9
  go_wp2
  go_loopw [5, 6] (fun s i wr => s = .int .i64 0 ∧ i = .int .i64 0 ∧ wr = w) (fun _ i _ => (intOf i).toNat)
  case atStart => exact ⟨rfl, rfl, by first | rfl | trivial⟩
  case round =>
    obtain ⟨rfl, rfl, rfl⟩ := hrel
    go_wp2
    go_loopw [5, 7] (fun s i w9 => ∃ k sk q : Nat, k ≤ n ∧ i = .int .i64 k ∧ s = .int .i64 (sk : Int) ∧ sk ≤ 1048576 ∧ Hid (sumO (os.take k) = sk) ∧ w9 = wr.drewN q) (fun _ i _ => n - (intOf i).toNat)
    case atStart => exact ⟨0, 0, 0, Nat.zero_le _, rfl, rfl, by omega, show _ = _ from rfl, rfl⟩
    case round =>
      obtain ⟨k, sk, q, hk, rfl, rfl, hs, HS, rfl⟩ := hrel
      by_cases hlt : k < n
      · have hlt' : (k : Int) < (n : Int) := by omega
        have hks : k < os.length := by have := HN.out; omega
        obtain ⟨o, ho⟩ : ∃ o, os[k]? = some o := ⟨_, List.getElem?_eq_getElem hks⟩
        obtain ⟨b, off, rfl, _, hcl⟩ := HF.out.at_ k o ho
        have hok := HF.out.ok o (List.mem_of_getElem? ho)
        have c3 := hcl 3 (by omega)
        have c7 := hcl 7 (by omega)
        replace c3 : wr.cell? ⟨b, off + k * 8 + 3, none⟩ = some (.slice o.da o.data.length o.dc) := c3
        replace c7 : wr.cell? ⟨b, off + k * 8 + 7, none⟩ = some (.slice o.ka o.keep.length o.kc) := c7
        have hb1 := hok.big
        have HNX : Hid (sumO (os.take (k + 1)) = sumO (os.take k) + (o.data.length + o.keep.length)) := sumO_take ho
        obtain ⟨l1, hl1⟩ : ∃ l1, l1 = o.data.length := ⟨_, rfl⟩
        obtain ⟨l2, hl2⟩ : ∃ l2, l2 = o.keep.length := ⟨_, rfl⟩
        have HLEN : Hid (l1 = o.data.length ∧ l2 = o.keep.length) := ⟨hl1, hl2⟩
        rw [← hl1] at c3 hb1
        rw [← hl2] at c7 hb1
        obtain ⟨hb1, hb2⟩ := hb1
        clear ho hcl hok hl1 hl2
        by_cases hbig : 1048576 < sk + l1 + l2
        · have hbig' : (1048576 : Int) < (sk : Int) + (l1 : Int) + (l2 : Int) := by omega
          go_wp2
          go_quiet (fail)
          go_wp2
          go_ret
          exact ⟨⟨false, rfl, by intro e; cases e⟩, _, rfl⟩
        · have hbig' : ¬ (1048576 : Int) < (sk : Int) + (l1 : Int) + (l2 : Int) := by omega
          go_wp2
          go_quiet (fail)
          go_wp2
          go_roundw
          case rel => exact ⟨k + 1, sk + l1 + l2, _, by omega, by go_num, by go_num, by omega, show _ = _ by rw [HNX.out, HS.out, HLEN.out.1, HLEN.out.2, Nat.add_assoc], rfl⟩
          case measure => simp [intOf]; omega
      · have hk' : k = n := by omega
        subst hk'
        have HT : Hid (sumO os ≤ 1048576) := by
          have e := HS.out
          rw [List.take_of_length_le (by rw [← HN.out]; exact Nat.le_refl _)] at e
          show _ ≤ _
          rw [e]; exact hs
        clear HS
        go_wp2
        go_ret
        refine ⟨⟨_, rfl, fun e => ⟨HT.out, ?_⟩⟩, _, rfl⟩
        have := HN.out
        simp at e
        omega
end Dsk
end Go.Proofs.Ytbloifnibgdeoaa
