import Derived.Test.YtjfhhjkggjflfaaDoorBl4
namespace Go.Proofs.YtjfhhjkggjflfaaDoor
namespace Blr
open Go.RowKit CMath Byt Cod Laws Tsr BMath Blo
set_option linter.unusedVariables false
set_option maxRecDepth 20000

/-- Numbers that lie in a block. -/
def NRow (w : World) (b off : Nat) (l : List Nat) : Prop := b < w.heap.size ∧ ∀ (i : Nat) (x : Nat), l[i]? = some x → w.cell? ⟨b, off + i, none⟩ = some (.int .u64 (x : Int))
/-- What a slice of numbers holds. -/
def IsN (w : World) (a : Option Addr) (l : List Nat) : Prop := l ≠ [] → ∃ b off, a = some ⟨b, off, none⟩ ∧ NRow w b off l
theorem NRow.keep {w w' : World} {b off : Nat} {l : List Nat} (h : NRow w b off l) (hb : w'.heap[b]? = w.heap[b]?) (hs : w.heap.size ≤ w'.heap.size) : NRow w' b off l :=
  ⟨Nat.lt_of_lt_of_le h.1 hs, fun i x hx => (World.cell?_of_block (w := w) (a := ⟨b, off + i, none⟩) hb).trans (h.2 i x hx)⟩
theorem NRow.below {w w' : World} {B b off : Nat} {l : List Nat} (h : NRow w b off l) (hb : Below B w w') (hB : b < B) : NRow w' b off l := h.keep (hb.block b hB) hb.size
theorem IsN.below {w w' : World} {a : Option Addr} {l : List Nat} (h : IsN w a l) (hb : Below w.heap.size w w') : IsN w' a l := fun hne => by
  obtain ⟨b, off, e, hr⟩ := h hne
  exact ⟨b, off, e, hr.below hb hr.1⟩
theorem IsN.nil (w : World) (a : Option Addr) : IsN w a [] := fun h => absurd rfl h
theorem IsN.some {w : World} {b off : Nat} {l : List Nat} (h : NRow w b off l) : IsN w (some ⟨b, off, none⟩) l := fun _ => ⟨b, off, rfl, h⟩
theorem IsN.none {w : World} {l : List Nat} (h : IsN w none l) : l = [] := by
  by_cases hne : l = []
  · exact hne
  · obtain ⟨b, off, e, _⟩ := h hne
    cases e
theorem NRow.take {w : World} {b off : Nat} {l : List Nat} (h : NRow w b off l) (n : Nat) : NRow w b off (l.take n) :=
  ⟨h.1, fun i x hx => h.2 i x (by
    rw [List.getElem?_take] at hx
    split at hx
    · exact hx
    · cases hx)⟩
theorem NRow.drop {w : World} {b off : Nat} {l : List Nat} (h : NRow w b off l) (n : Nat) : NRow w b (off + n) (l.drop n) :=
  ⟨h.1, fun i x hx => by
    rw [List.getElem?_drop] at hx
    have := h.2 (n + i) x hx
    rwa [← Nat.add_assoc] at this⟩
theorem IsN.take {w : World} {a : Option Addr} {l : List Nat} (h : IsN w a l) (n : Nat) : IsN w a (l.take n) := fun hne => by
  obtain ⟨b, off, e, hr⟩ := h (by intro e; rw [e] at hne; simp at hne)
  exact ⟨b, off, e, hr.take n⟩

def cellsN (l : List Nat) : List Value := l.map fun (x : Nat) => Value.int .u64 (x : Int)
theorem cellsN_length (l : List Nat) : (cellsN l).length = l.length := by simp [cellsN]
theorem cellsN_append (l r : List Nat) : cellsN (l ++ r) = cellsN l ++ cellsN r := by simp [cellsN]
theorem cellsN_one (l : List Nat) : ∀ u ∈ cellsN l, u.oneCell' = true := by
  intro u hu
  simp [cellsN] at hu
  obtain ⟨x, _, rfl⟩ := hu
  rfl
theorem cellsN_get {l : List Nat} {i : Nat} {x : Nat} (h : l[i]? = some x) : (cellsN l)[i]? = some (.int .u64 (x : Int)) := by simp [cellsN, h]
theorem cellsN_inv {l : List Nat} {i : Nat} {u : Value} (h : (cellsN l)[i]? = some u) : ∃ x, l[i]? = some x ∧ u = .int .u64 (x : Int) := by
  simp [cellsN] at h
  obtain ⟨x, h1, h2⟩ := h
  exact ⟨x, h1, h2.symm⟩
theorem newsN {w : World} {a : Option Addr} {l : List Nat} (h : IsN w a l) : ∀ ad, a = some ad → ∀ j u, (cellsN l)[j]? = some u → w.cell? (ad.add j) = some u := by
  intro ad had j u hu
  obtain ⟨x, hx, rfl⟩ := cellsN_inv hu
  obtain ⟨b, off, h', hlt, hr⟩ := h (by intro e; rw [e] at hx; simp at hx)
  rw [had] at h'
  cases h'
  rw [Byt.add_plain']
  exact hr j x hx
theorem row_of_ownN {w : World} {base g n c : Nat} {l : List Nat} {e : TypeId} (h : w.ownsRow base e 1 (.slice (some ⟨g, 0, none⟩) n c) n (cellsN l)) (hn : n = l.length) : NRow w g 0 l := by
  refine ⟨(h.lt g rfl).2, fun i x hx => ?_⟩
  have hi : i < l.length := (List.getElem?_eq_some_iff.1 hx).1
  rw [Nat.zero_add, h.cellAt _ (by omega)]
  exact cellsN_get hx
/-- A list of numbers of one's own: nil, or in a block of its own. -/
theorem isN_of_own {w : World} {base n : Nat} {v : Value} {l : List Nat} {e : TypeId} (h : w.ownsRow base e 1 v n (cellsN l)) : n = l.length ∧ ∃ a c, v = .slice a n c ∧ IsN w a l ∧ n ≤ c ∧ c ≤ 9223372036854775807 ∧ (a = none → c = 0 ∧ l = []) ∧ (∀ g off, a = some ⟨g, off, none⟩ → base ≤ g ∧ g < w.heap.size) := by
  have hn : n = l.length := by have := h.1; rw [cellsN_length] at this; omega
  refine ⟨hn, ?_⟩
  rcases h.2 with ⟨h1, h2⟩ | ⟨g, c, cur, rfl, hg, _, hc, hm, _⟩
  · have : l = [] := List.eq_nil_of_length_eq_zero (by omega)
    exact ⟨none, 0, by rw [h1, h2], by rw [this]; exact IsN.nil _ _, by omega, by omega, fun _ => ⟨rfl, this⟩, fun g off e => by cases e⟩
  · exact ⟨some ⟨g, 0, none⟩, c, rfl, IsN.some (row_of_ownN h hn), hc, hm, fun e => (by cases e), fun g' off e => (by cases e; exact ⟨hg, (h.lt _ rfl).2⟩)⟩
theorem infoN : (Tryd.prog.info? 55).map (fun i => (i.zero, i.size, i.bytes)) = some (some (.int .u64 0), 1, 8) := by kernel_rfl

/-- append of numbers onto numbers of the call's own. -/
theorem wpList_appN {P : Program} {w : World} {ops : Array Oper} {rest : List Oper} {o : Oper} {a : Act} {Q : Exit → Act → World → Prop} (hgd : o.guard = none) (s x : Operand) (t : TypeId)
    (ho : o.op = .call { callee := .builtin .append, args := #[s, x], argTypes := #[t, t] })
    (base : Nat) (e : TypeId) (i : TypeInfo) (ht : P.underlying t = some (.slice e)) (hi : P.info? e = some i) (hz : i.zero = some (.int .u64 0)) (hsize : i.size = 1) (hby : i.bytes = 8)
    (v : Value) (l : List Nat) (n : Nat) (hs : a.eval s = v) (hown : w.ownsRow base e 1 v n (cellsN l))
    (ao : Option Addr) (m c : Nat) (r : List Nat) (hx : a.eval x = .slice ao m c) (hm : m = r.length) (hn : ao = none → c = 0) (hr : IsN w ao r)
    (h47 : (n + m) * 8 ≤ 140737488355328) (hbase : base ≤ w.heap.size)
    (h : ∀ v' w', w'.ownsRow base e 1 v' (n + m) (cellsN (l ++ r)) → w.grownBy w' v.ownBlock → (v ≠ .slice none 0 0 → v' ≠ .slice none 0 0) → wpList P ops Q rest (a.put o.dst v') w') : wpList P ops Q (o :: rest) a w := by
  subst hm
  cases ao with
  | none =>
    have hr0 := hr.none
    subst hr0
    obtain rfl := hn rfl
    refine wpList_append_own_none hgd s x t ho base e i 1 ht hi v n _ hs hown hx (h v w (by simpa using hown) (World.grownBy.refl _ _) (fun h => h))
  | some ad =>
    refine wpList_append_own w hgd s x t ho base e i (.int .u64 0) 1 8 ht hi hz hsize hby rfl (by omega) v n _ hs hown ad r.length c (cellsN r) hx (by rw [cellsN_length]; omega) (newsN hr ad rfl) (cellsN_one r) (by unfold maxLen; omega) (by omega) hbase fun v' w' h2 h3 h4 => h v' w' (by rw [cellsN_append]; exact h2) h3 (fun hv hv' => hv (h4.1 hv').1)
theorem isN_new {w : World} {x : Nat} {z : Int} {T : TypeId} (hz : z = (x : Int)) : IsN (w.alloc (.cells #[.int .u64 z] T)) (some ⟨w.heap.size, 0, none⟩) [x] := by
  subst hz
  refine IsN.some ⟨by simp, fun i z hz => ?_⟩
  rw [World.cell?_alloc_at _ _ _ _ rfl]
  cases i with
  | zero => simp at hz; subst hz; rfl
  | succ i => simp at hz

/-- The answer of 'spots'. -/
def SpotAns (w : World) (l : List Nat) (e : Ending) (w' : World) : Prop := ∃ a c, e = .returned (.slice a l.length c) ∧ IsN w' a l ∧ Below w.heap.size w w' ∧ ∀ b off, a = some ⟨b, off, none⟩ → w.heap.size ≤ b

set_option maxHeartbeats 1000000 in
theorem spots_any (s : ByteArray) (k m : Nat) (w : World) (hm : 0 < m) (hm64 : m < 18446744073709551616) (hk : k ≤ 255) (hs : s.size ≤ 9223372036854775807) :
    Calls Tryd.prog 19 #[.string s, .int .i64 (k : Int), .int .u64 (m : Int)] w (SpotAns w (spots (crc (strB s)) m k)) := by
  have hc32 : crc (strB s) < 4294967296 := crc_lt _ (strB_byte s)
  have hcv : ∀ w', (convert 9 42 (.string s)).run Tryd.prog w' = .ok (.slice (some ⟨w'.heap.size, 0, none⟩) s.size (grownCap w' s.size 0 5)) (Lib.bytesWorld w' 5 s) := fun w' => Lib.run_convert_string_bytes w' _ _ _ s Tryd.underlying9 Tryd.underlying42 Tryd.underlying5
  obtain ⟨iN, hiN, hz0, hz1, hz2⟩ := info_parts infoN
  go_enter Tryd.func19, Tryd.ntmps19
  go_wp2_with fail
  have hb1 := conv_below w 5 s
  have HB : Hid (IsB (Lib.bytesWorld w 5 s) (some ⟨w.heap.size, 0, none⟩) (strB s)) := conv_isB _ _ _
  clear hcv
  generalize Lib.bytesWorld w 5 s = w1 at *
  refine (refSum_any _ _ _ (strB s) w1 HB.out (by rw [strB_length]; exact hs) (strB_length s).symm).mono ?_
  rintro e w' ⟨rfl, rfl⟩
  generalize crc (strB s) = h at *
  have hd : (h : Int) / 131072 + (h : Int) % 131072 * 32768 = ((turned h : Nat) : Int) := by unfold turned; omega
  have hd32 := turned_lt hc32
  obtain ⟨d, hdd⟩ : ∃ d, turned h = d := ⟨_, rfl⟩
  rw [hdd] at hd hd32
  have HDD : Hid (turned h = d) := hdd
  clear hdd
  go_wp2_with fail
  go_loopw [9, 10, 11] (fun v x i wr => ∃ j : Nat, j ≤ k ∧ i = .int .i64 (j : Int) ∧ x = .int .u32 (((h + j * d) % 4294967296 : Nat) : Int) ∧ wr.ownsRow w.heap.size 55 1 v j (cellsN (spots h m j)) ∧ Below w.heap.size w wr) (fun _ _ i _ => k - (intOf i).toNat)
  case atStart =>
    refine ⟨0, Nat.zero_le _, rfl, ?_, World.ownsRow_nil _ _ _ _, hb1⟩
    rw [Nat.zero_mul, Nat.add_zero, Nat.mod_eq_of_lt hc32]
  case round =>
    obtain ⟨j, hj, rfl, rfl, hown, hbw⟩ := hrel
    have HO : Hid (wr.ownsRow w.heap.size 55 1 _ j (cellsN (spots h m j))) := hown
    have HBW : Hid (Below w.heap.size w wr) := hbw
    have hsz := hbw.size
    clear hown hbw
    by_cases hlt : j < k
    · have q1 : (j : Int) < (k : Int) := by omega
      have HP : Hid (((probe h m j : Nat) : Int) = (((h + j * d) % 4294967296 : Nat) : Int) % (m : Int)) := by
        show ((probe h m j : Nat) : Int) = _
        unfold probe
        rw [HDD.out]
        simp
      have HX : Hid (((((h + j * d) % 4294967296 : Nat) : Int) + (d : Int)) % 4294967296 = (((h + (j + 1) * d) % 4294967296 : Nat) : Int)) := by
        show _ = _
        rw [Nat.succ_mul]
        omega
      have HSU : Hid (spots h m j ++ [probe h m j] = spots h m (j + 1)) := (spots_succ h m j).symm
      have hx32 : (h + j * d) % 4294967296 < 4294967296 := Nat.mod_lt _ (by omega)
      generalize (h + j * d) % 4294967296 = x at *
      go_wp2_with (at_builtin; refine wpList_appN (by rfl) (.tmp 27) (.tmp 32) 53 (by rfl) w.heap.size 55 iN Tryd.underlying53 hiN hz0 hz1 hz2 _ (spots h m j) j (by rfl) (HO.out.alloc _) (some ⟨wr.heap.size, 0, none⟩) 1 1 [probe h m j] (by rfl) rfl (by simp) (isN_new HP.out.symm) (by omega) (by simp; omega) ?_; intro v2 w2 hown2 hgr2 hnn2; have HG2 : Hid ((wr.alloc _).grownBy w2 _) := hgr2; have HO2 : Hid (w2.ownsRow w.heap.size 55 1 v2 (j + 1) (cellsN (spots h m j ++ [probe h m j]))) := hown2; clear hgr2 hown2 hnn2)
      have HB2 : Hid (Below w.heap.size w w2) := below_of (HBW.out.alloc hsz _) HG2.out (Nat.le_refl _) (fun j hj => (HO.out.lt j hj).1)
      refine ⟨⟨j + 1, by omega, by go_num, ?_, ?_, HB2.out⟩, by simp [intOf]; omega⟩
      · rw [HX.out]
      · have h2 := HO2.out
        rw [HSU.out] at h2
        exact h2
    · obtain rfl : j = k := by omega
      obtain ⟨t1, a2, c2, rfl, hN, _, _, _, hg⟩ := isN_of_own HO.out
      have HN : Hid (IsN wr a2 (spots h m j)) := hN
      have HGG : Hid (∀ g off, a2 = some ⟨g, off, none⟩ → w.heap.size ≤ g) := fun g off e => (hg g off e).1
      clear t1 hN hg
      go_wp2_with fail
      go_ret
      exact ⟨a2, c2, by rw [spots_length]; rfl, HN.out, HBW.out, HGG.out⟩
end Blr
end Go.Proofs.YtjfhhjkggjflfaaDoor
