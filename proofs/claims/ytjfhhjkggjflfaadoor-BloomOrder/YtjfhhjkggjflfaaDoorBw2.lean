import Derived.Test.YtjfhhjkggjflfaaDoorBk1
import Derived.Test.YtjfhhjkggjflfaaDoorBSet
namespace Go.Proofs.YtjfhhjkggjflfaaDoor
namespace BloomOrder
open Go.RowKit CMath Byt Cod Laws Tsr BMath Blo Blk
set_option linter.unusedVariables false
set_option maxRecDepth 20000

theorem drop_rev {l : List ByteArray} {k : Nat} {x : ByteArray} (h : l[k]? = some x) : (l.drop (k + 1)).reverse ++ [x] = (l.drop k).reverse := by
  obtain ⟨hk, e⟩ := List.getElem?_eq_some_iff.1 h
  rw [List.drop_eq_getElem_cons hk, List.reverse_cons, e]
/-- What stands while places are set in the second filter. -/
structure Fs (w : World) (g : Nat) (F : List Nat) (m : Nat) (wr : World) : Prop where
  bel : Below w.heap.size w wr
  row : ∃ ps : List Nat, (∀ p ∈ ps, p / 8 < F.length - 1) ∧ BRow wr g 0 (puts F ps)
  frz : ∀ j, wr.frozen? ⟨g, j, none⟩ = false
theorem Fs.put {w : World} {g : Nat} {F : List Nat} {m : Nat} {wr : World} (h : Fs w g F m wr) (hg : w.heap.size ≤ g) {ps : List Nat} {p z : Nat} (hps : ∀ p ∈ ps, p / 8 < F.length - 1) (hrow : BRow wr g 0 (puts F ps)) (hp : p / 8 < F.length - 1) (hz : (puts F ps)[p / 8]? = some z) {y : Int} (hy : y = ((z ||| 2 ^ (p % 8) : Nat) : Int)) : Fs w g F m (wr.setCell ⟨g, p / 8, none⟩ (.int .u8 y)) := by
  refine ⟨h.bel.setCell (p := ⟨g, p / 8, none⟩) hg _, ⟨ps ++ [p], ?_, ?_⟩, fun j => by rw [World.frozen?_setCell]; exact h.frz j⟩
  · intro q hq
    rcases List.mem_append.1 hq with hq | hq
    · exact hps q hq
    · rw [List.mem_singleton.1 hq]; exact hp
  · rw [puts_append, puts_one]
    unfold BMath.put
    rw [List.getD_eq_getElem?_getD, hz]
    exact hrow.set (by rw [puts_length]; omega) _ _ hy

set_option maxHeartbeats 2000000 in
theorem walk (a : Option Addr) (cap : Nat) (ks : List ByteArray) (b : Int) (sa : Option Addr) (scap : Nat) (sl : List Int) (key : ByteArray) (w : World) (h : IsT w a ks) (hc : a = none → cap = 0) (hcap : ks.length ≤ cap) (hmx : cap ≤ 9223372036854775807) (hsz : ∀ s ∈ ks, s.size ≤ 9223372036854775807) (hb : -9223372036854775808 ≤ b ∧ b ≤ 9223372036854775807)
    (hsl : sl ≠ [] → ∃ b off, sa = some ⟨b, off, none⟩ ∧ b < w.heap.size ∧ ∀ (i : Nat) (x : Int), sl[i]? = some x → w.cell? ⟨b, off + i, none⟩ = some (.int .i64 x)) (hsc : sl.length ≤ scap) (hsm : scap ≤ 9223372036854775807) (hsr : ∀ x ∈ sl, -9223372036854775808 ≤ x ∧ x ≤ 9223372036854775807) (hks : key.size ≤ 9223372036854775807) (ht : Tab w) :
    Calls Tryd.prog 6 #[.slice a ks.length cap, .int .i64 b, .slice sa sl.length scap, .string key] w fun e w' => e = .returned (.bool true) ∧ Below w.heap.size w w' := by
  obtain ⟨ts, hts⟩ : ∃ ts, ks.take 4000 = ts := ⟨_, rfl⟩
  have hlen : min ks.length 4000 = ts.length := by rw [← hts, List.length_take]; omega
  have HI : Hid (IsT w a ts) := by rw [← hts]; exact h.take 4000
  have HS : Hid (∀ s ∈ ts, s.size ≤ 9223372036854775807) := fun s hs => hsz s (by rw [← hts] at hs; exact List.mem_of_mem_take hs)
  have HT : Hid (Tab w) := ht
  have HC : Hid (a = none → cap = 0) := hc
  have hl4 : ts.length ≤ 4000 := by omega
  have HSL : Hid (sl ≠ [] → ∃ b off, sa = some ⟨b, off, none⟩ ∧ b < w.heap.size ∧ ∀ (i : Nat) (x : Int), sl[i]? = some x → w.cell? ⟨b, off + i, none⟩ = some (.int .i64 x)) := hsl
  have HSR : Hid (∀ x ∈ sl, -9223372036854775808 ≤ x ∧ x ≤ 9223372036854775807) := hsr
  obtain ⟨iS, hiS, hz0, hz1, hz2⟩ := info_parts infoS
  clear h ht hsz hc hsl hsr
  go_enter Tryd.func6, Tryd.ntmps6
  go_wp2_with fail
  refine (known_any w HT.out).mono ?_
  rintro e w1 ⟨rfl, hb1⟩
  have HB1 : Hid (Below w.heap.size w w1) := hb1
  clear hb1
  go_wp2_with fail
  refine (some_any a cap ks.length w1 HC.out hcap hmx).mono ?_
  rintro e w' ⟨rfl, rfl⟩
  rw [hlen]
  go_wp2_with fail
  go_loopw [9, 10] (fun v i wr => ∃ k : Nat, k ≤ ts.length ∧ i = .int .i64 ((k : Int) - 1) ∧ wr.ownsRow w'.heap.size 9 1 v (ts.length - k) (cellsT (ts.drop k).reverse) ∧ Below w'.heap.size w' wr) (fun _ i _ => (intOf i + 1).toNat)
  case atStart =>
    refine ⟨ts.length, Nat.le_refl _, rfl, ?_, Below.refl _ _⟩
    rw [List.drop_length, Nat.sub_self]
    exact World.ownsRow_nil _ _ _ _
  case round =>
    obtain ⟨k, hk, rfl, hown, hbw⟩ := hrel
    have HO : Hid (wr.ownsRow w'.heap.size 9 1 _ (ts.length - k) (cellsT (ts.drop k).reverse)) := hown
    have HBW : Hid (Below w'.heap.size w' wr) := hbw
    have HBA : Hid (Below w.heap.size w wr) := HB1.out.trans (hbw.mono HB1.out.size)
    clear hown hbw
    cases k with
    | succ k =>
      obtain ⟨b1, o1, rfl, hr1⟩ := HI.out (by rintro rfl; simp at hk)
      obtain ⟨x, hx⟩ : ∃ x, ts[k]? = some x := ⟨_, List.getElem?_eq_getElem (by omega)⟩
      have c0 := (hr1.below HBA.out hr1.1).2 k x hx
      have HD : Hid ((ts.drop (k + 1)).reverse ++ [x] = (ts.drop k).reverse) := drop_rev hx
      have q1 : (k : Int) < (ts.length : Int) := by omega
      have hbl := hr1.1
      have hbs := HBA.out.size
      have hbs2 := HBW.out.size
      have zb : ¬ b1 = wr.heap.size := by omega
      have e0 : ((k + 1 : Nat) : Int) - 1 = (k : Int) := by omega
      rw [e0]
      have q2 : ¬ (k : Int) < 0 := by omega
      clear hx hr1
      go_wp2_with (at_builtin; refine wpList_appT (by rfl) (.tmp 27) (.tmp 32) 22 (by rfl) w'.heap.size 9 iS Tryd.underlying22 hiS hz0 hz1 hz2 _ (ts.drop (k + 1)).reverse (ts.length - (k + 1)) (by rfl) (HO.out.alloc _) (some ⟨wr.heap.size, 0, none⟩) 1 1 [x] (by rfl) rfl (by simp) isT_new (by omega) (by simp; omega) ?_; intro v2 w2 hown2 hgr2 hnn2; have HG2 : Hid ((wr.alloc _).grownBy w2 _) := hgr2; have HO2 : Hid (w2.ownsRow w'.heap.size 9 1 v2 (ts.length - (k + 1) + 1) (cellsT ((ts.drop (k + 1)).reverse ++ [x]))) := hown2; clear hgr2 hown2 hnn2)
      have HB2 : Hid (Below w'.heap.size w' w2) := below_of (HBW.out.alloc hbs2 _) HG2.out (Nat.le_refl _) (fun j hj => (HO.out.lt j hj).1)
      refine ⟨⟨k, by omega, by go_num, ?_, HB2.out⟩, by simp [intOf]⟩
      have h2 := HO2.out
      rw [HD.out, show ts.length - (k + 1) + 1 = ts.length - k by omega] at h2
      exact h2
    | zero =>
      have e0 : ((0 : Nat) : Int) - 1 = -1 := by omega
      rw [e0]
      have hO := HO.out
      rw [List.drop_zero, Nat.sub_zero] at hO
      obtain ⟨t1, ba, bc, rfl, hbT, t2, t3, t4, t5⟩ := isT_of_own hO
      have HBT : Hid (IsT wr ba ts.reverse) := hbT
      clear hO hbT t1 t2 t3 t4 t5 e0
      go_wp2_with fail
      refine (make_any a cap ts.length ts b wr (HI.out.below HBA.out) (HT.out.below HBA.out HT.out.lt) hb (by omega) HS.out rfl).mono ?_
      rintro e w2 ⟨a2, c2, rfl, hn2, hb2⟩
      have HN2 : Hid (New 5 wr.heap.size w2 a2 c2 (mk (ts.map strB) b)) := hn2
      have HB2 : Hid (Below w.heap.size w w2) := HBA.out.trans (hb2.mono HBA.out.size)
      have HBT2 : Hid (IsT w2 ba ts.reverse) := HBT.out.below hb2
      clear hn2 hb2
      go_wp2_with fail
      refine (make_any ba bc ts.length ts.reverse b w2 HBT2.out (HT.out.below HB2.out HT.out.lt) hb (by rw [List.length_reverse]; omega) (fun s hs => HS.out s (List.mem_reverse.1 hs)) (by rw [List.length_reverse])).mono ?_
      rintro e w3 ⟨a3, c3, rfl, hn3, hb3⟩
      rw [List.map_reverse, mk_reverse] at hn3 ⊢
      have HN3 : Hid (New 5 w2.heap.size w3 a3 c3 (mk (ts.map strB) b)) := hn3
      have HB3 : Hid (Below w.heap.size w w3) := HB2.out.trans (hb3.mono HB2.out.size)
      have HA3 : Hid (IsB w3 a2 (mk (ts.map strB) b)) := HN2.out.isB.below hb3
      have hml := mk_length_le (ts.map strB) b
      have hnil := mk_nil (ts.map strB) b
      have hnine : (mk (ts.map strB) b).length = 0 ∨ 9 ≤ (mk (ts.map strB) b).length := by
        by_cases hx : b < 1 ∨ ts.map strB = []
        · exact .inl (hnil.2 hx)
        · exact .inr (mk_some hx)
      clear hn3 hb3 hnil
      generalize mk (ts.map strB) b = F at *
      go_wp2_with fail
      refine (same_any a2 a3 c2 c3 _ _ F w3 HA3.out HN3.out.isB (by omega) rfl rfl).mono ?_
      rintro e w'' ⟨rfl, d4, rfl⟩
      have HB4 : Hid (Below w.heap.size w (w3.drewN d4)) := below_drewN HB3.out _
      have HA4 : Hid (IsB (w3.drewN d4) a2 F) := HA3.out.below (below_drewN (Below.refl _ _) _)
      have HN4 : Hid (New 5 w2.heap.size (w3.drewN d4) a3 c3 F) := HN3.out.below (below_drewN (Below.refl _ _) _)
      generalize w3.drewN d4 = w4 at *
      clear HA3 HN3
      by_cases hF : F.length = 0
      · have q1 : (F.length : Int) = 0 := by omega
        go_wp2
        go_ret
        exact ⟨rfl, HB4.out⟩
      · have q1 : ¬ (F.length : Int) < 2 := by omega
        go_wp2_with fail
        refine (may_any a2 c2 F.length F key w4 HA4.out (HT.out.below HB4.out HT.out.lt) (by omega) hks rfl).mono ?_
        rintro e w5 ⟨rfl, hb5⟩
        have HB5 : Hid (Below w.heap.size w w5) := HB4.out.trans (hb5.mono HB4.out.size)
        have HN5 : Hid (New 5 w2.heap.size w5 a3 c3 F) := HN4.out.below hb5
        clear hb5
        obtain ⟨g, rfl, hg, hrow, hfz⟩ := New.at HN5.out (by omega)
        have hgw : w.heap.size ≤ g := by have := HB2.out.size; omega
        have HF0 : Hid (Fs w g F 0 w5) := ⟨HB5.out, ⟨[], by simp, hrow⟩, hfz⟩
        have HBF : Hid (∀ z ∈ F, z < 256) := HN5.out.byte
        clear hrow hfz
        have HMV : Hid (∀ ps : List Nat, (∀ p ∈ ps, p / 8 < F.length - 1) → may F (strB key) = true → may (puts F ps) (strB key) = true) := fun ps hps hm => may_puts hps hm
        obtain ⟨N, hN⟩ : ∃ N, F.length = N + 1 := ⟨F.length - 1, by omega⟩
        have hN8 : 8 ≤ N := by omega
        have hN9 : N ≤ 131072 := by omega
        generalize may F (strB key) = mv at *
        rw [hN]
        clear HN4 HA4 HN2 HBT HBT2 HO hnine
        go_wp2_with fail
        go_loopw [14] (fun i wr => ∃ k : Nat, k ≤ sl.length ∧ i = .int .i64 k ∧ Fs w g F 0 wr) (fun i _ => sl.length - (intOf i).toNat)
        case atStart => exact ⟨0, Nat.zero_le _, rfl, HF0.out⟩
        case round =>
          rename World => wp
          obtain ⟨k, hk, rfl, hfs⟩ := hrel
          obtain ⟨ps, hps, hrow⟩ := hfs.row
          have HFS : Hid (Fs w g F 0 wp) := hfs
          have HPS : Hid (∀ p ∈ ps, p / 8 < F.length - 1) := hps
          have HRW : Hid (BRow wp g 0 (puts F ps)) := hrow
          clear hfs hps hrow
          by_cases hlt : k < sl.length
          · obtain ⟨b1, o1, rfl, hbl, hcl⟩ := HSL.out (by rintro rfl; simp at hlt)
            obtain ⟨x, hx⟩ : ∃ x, sl[k]? = some x := ⟨_, List.getElem?_eq_getElem hlt⟩
            have c0 := (HFS.out.bel.cell (p := ⟨b1, o1 + k, none⟩) hbl).trans (hcl k x hx)
            obtain ⟨x1, x2⟩ := HSR.out x (List.mem_of_getElem? hx)
            have q3 : (k : Int) < (sl.length : Int) := by omega
            have hpl : (puts F ps).length = N + 1 := by rw [puts_length, hN]
            have key' : ∀ q : Nat, ∃ p z : Nat, (q : Int) % (8 * (N : Int)) = (p : Int) ∧ p < 8 * N ∧ z < 256 ∧ wp.cell? ⟨g, p / 8, none⟩ = some (.int .u8 (z : Int)) ∧ wp.frozen? ⟨g, p / 8, none⟩ = false ∧ Hid (Fs w g F 0 (wp.setCell ⟨g, p / 8, none⟩ (.int .u8 (bits .or .u8 (z : Int) ((2 : Int) ^ (p % 8) % 256))))) := fun q => by
              have hp : q % (8 * N) < 8 * N := Nat.mod_lt _ (by omega)
              generalize hq : q % (8 * N) = p at hp
              obtain ⟨z, hz⟩ : ∃ z, (puts F ps)[p / 8]? = some z := ⟨_, List.getElem?_eq_getElem (by rw [hpl]; omega)⟩
              have hz256 : z < 256 := puts_byte HBF.out _ z (List.mem_of_getElem? hz)
              have hp8 : p % 8 < 8 := Nat.mod_lt p (by omega)
              have hc := HRW.out.2 (p / 8) z hz
              rw [Nat.zero_add] at hc
              refine ⟨p, z, ?_, hp, hz256, hc, HFS.out.frz _, HFS.out.put hgw HPS.out HRW.out (by rw [hN]; omega) hz (by rw [pow_int hp8, u8_or_nat z (2 ^ (p % 8)) hz256 (pow_lt hp8)])⟩
              rw [← hq]
              simp
            clear hx hcl
            by_cases hneg : x < 0
            · obtain ⟨q, hq⟩ : ∃ q : Nat, -(x + 1) = (q : Int) := ⟨(-(x + 1)).toNat, by omega⟩
              obtain ⟨p, z, e1, hp, hz256, d0, d1, HNX⟩ := key' q
              have g1 : (p : Int) / 8 < (N : Int) + 1 := by omega
              clear key'
              go_wp2
              go_roundw
              case rel => exact ⟨k + 1, by omega, by go_num, HNX.out⟩
              case measure => simp [intOf]; omega
            · obtain ⟨q, rfl⟩ : ∃ q : Nat, x = (q : Int) := ⟨x.toNat, by omega⟩
              obtain ⟨p, z, e1, hp, hz256, d0, d1, HNX⟩ := key' q
              have g1 : (p : Int) / 8 < (N : Int) + 1 := by omega
              clear key'
              go_wp2
              go_roundw
              case rel => exact ⟨k + 1, by omega, by go_num, HNX.out⟩
              case measure => simp [intOf]; omega
          · have HM9 : Hid (mv = true → may (puts F ps) (strB key) = true) := fun h => HMV.out ps HPS.out h
            cases mv with
            | false =>
              go_wp2
              go_ret
              exact ⟨rfl, HFS.out.bel⟩
            | true =>
              go_wp2_with fail
              refine (may_any (some ⟨g, 0, none⟩) c3 (N + 1) (puts F ps) key wp (IsB.some HRW.out (puts_byte HBF.out _)) (HT.out.below HFS.out.bel HT.out.lt) (by rw [puts_length]; omega) hks (by rw [puts_length, hN])).mono ?_
              rintro e w9 ⟨rfl, hb9⟩
              rw [HM9.out (by trivial)]
              go_wp2
              go_ret
              exact ⟨rfl, HFS.out.bel.trans (hb9.mono HFS.out.bel.size)⟩
end BloomOrder
end Go.Proofs.YtjfhhjkggjflfaaDoor
