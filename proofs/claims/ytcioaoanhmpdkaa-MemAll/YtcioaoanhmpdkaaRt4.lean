import Derived.Test.YtcioaoanhmpdkaaRt3
import Derived.Test.YtcioaoanhmpdkaaMm3
import Derived.Deep.RegionHeld3
namespace Go.Proofs.Ytcioaoanhmpdkaa
namespace Mem
open Go.RowKit Laws Irw Erw KMath Skm Byt Sk Grp Crw Chk
set_option linter.unusedVariables false
set_option maxRecDepth 100000
set_option linter.unusedSimpArgs false
open Classical in
/-- what the document's Put makes of the entries -/
noncomputable def rput (es : List En) (x : En) : List En := if Dup es x then es else insP es (plc x.1 x.2.1 es) x
/-- the reference's memtable behind some entries -/
structure Rk (w W : World) (Q R : Nat) (bs : List Nat) (fz : Bool) (es : List En) (hs' : List Int) (bs' : List Nat) : Prop where
  t : Rt W Q R es hs' bs' fz
  go : Keep [R] w W
  bs : ∀ b ∈ bs', b ∈ bs ∨ w.heap.size ≤ b
theorem Rk.below {w W W' : World} {Q R : Nat} {bs : List Nat} {fz : Bool} {es : List En} {hs' : List Int} {bs' : List Nat} (h : Rk w W Q R bs fz es hs' bs') (hb : Below W.heap.size W W') : Rk w W' Q R bs fz es hs' bs' := ⟨h.t.below hb, h.go.trans (Keep.below hb), h.bs⟩
theorem insP_mem {l : List En} {M : Nat} {x y : En} (h : y ∈ insP l M x) : y = x ∨ y ∈ l := by
  unfold insP at h
  rcases List.mem_append.1 h with h | h
  · rcases List.mem_append.1 h with h | h
    · exact .inr (List.mem_of_mem_take h)
    · exact .inl (by simpa using h)
  · exact .inr (List.mem_of_mem_drop h)
theorem Rk.put {w W : World} {Q R : Nat} {bs : List Nat} {fz : Bool} {es : List En} {hs' : List Int} {bs' : List Nat} (h : Rk w W Q R bs fz es hs' bs') (hQ : Q < w.heap.size) (hQb : Q ∉ bs) (hl : es.length + 1 ≤ 2932031007402) (x : En) (hx : okE x) :
    Calls Try.prog 93 #[.pointer (some ⟨R, 0, none⟩), .agg #[.string x.1, .int .u64 x.2.1, .bool x.2.2.1, .string x.2.2.2]] W fun r w' => ∃ ok hs'' bs'', r = .returned (.bool ok) ∧ Rk w w' Q R bs fz (rput es x) hs'' bs'' := by
  refine (refPut_any W R [] es hs' bs' x h.t.rl hl (by simp)).mono ?_
  rintro r w' ⟨ok, rfl, es', hs'', bs'', h1, h2, h3, h4⟩
  have he : es' = rput es x := by
    unfold rput
    rcases h4 with ⟨_, hd, e, _⟩ | ⟨_, hd, e, _⟩
    · rw [if_pos hd]; exact e
    · rw [if_neg hd]; exact e
  have hok : ∀ e ∈ es', okE e := fun e hm => by
    rcases h4 with ⟨_, hd, q, _⟩ | ⟨_, hd, q, _⟩
    · rw [q] at hm; exact h.t.ok e hm
    · rw [q] at hm
      rcases insP_mem hm with rfl | hm
      · exact hx
      · exact h.t.ok e hm
  have hbs : ∀ b ∈ bs'', b ∈ bs ∨ w.heap.size ≤ b := fun b hb => by
    rcases h3 b hb with hb | hb
    · exact h.bs b hb
    · exact .inr (Nat.le_trans h.go.size hb)
  subst he
  have hQR : Q ∉ [R] := by simp; exact h.t.ne.1
  exact ⟨ok, hs'', bs'', rfl, ⟨h1, Nat.lt_of_lt_of_le h.t.lt h2.size, ⟨h.t.ne.1, fun hm => by rcases hbs Q hm with hm | hm; exact hQb hm; omega⟩, (h2.cell (p := ⟨Q, 0, none⟩) h.t.lt hQR).trans h.t.c0, (h2.cell (p := ⟨Q, 1, none⟩) h.t.lt hQR).trans h.t.c1, fun j => (World.frozen?_of_block (a := ⟨Q, j, none⟩) (h2.block Q h.t.lt hQR)).trans (h.t.fr j), hok⟩, h.go.trans h2, hbs⟩
theorem rput_len {es : List En} {x : En} : (rput es x).length ≤ es.length + 1 := by
  unfold rput
  split
  · omega
  · rw [insP_len (plc_le _ _ _)]; exact Nat.le_refl _
theorem rputs_len : ∀ {l es : List En}, (l.foldl rput es).length ≤ es.length + l.length
  | [], es => by simp
  | x :: r, es => by
    have h1 := rputs_len (l := r) (es := rput es x)
    have h2 := rput_len (es := es) (x := x)
    simp only [List.foldl_cons, List.length_cons]
    omega
theorem isWr_row {w : World} {a : Option Addr} {ws : List Wr} (h : IsWr w a ws) {k : Nat} (hk : k < ws.length) : ∃ b off, a = some ⟨b, off, none⟩ ∧ b < w.heap.size ∧ w.cell? ⟨b, off + k * 3, none⟩ = some (.string ws[k].1) ∧ w.cell? ⟨b, off + k * 3 + 1, none⟩ = some (.bool ws[k].2.1) ∧ w.cell? ⟨b, off + k * 3 + 2, none⟩ = some (.string ws[k].2.2) := by
  obtain ⟨b, off, e, hr⟩ := h.1 (by rintro rfl; simp at hk)
  obtain ⟨c0, c1, c2⟩ := hr.2 k _ (List.getElem?_eq_getElem hk)
  exact ⟨b, off, e, hr.1, c0, c1, c2⟩
/-- what the reference's Add leaves -/
def RAddAns (w : World) (Q R : Nat) (bs : List Nat) (fz : Bool) (es : List En) (first : Int) (ws : List Wr) (w' : World) : Prop :=
  ∃ hs' bs', Rk w w' Q R bs fz (if addE fz ws = 0 then (Ents.ents first ws).foldl rput es else es) hs' bs'
set_option maxHeartbeats 2000000 in
/-- the reference's Add -/
theorem refAdd6 {w : World} {Q R n : Nat} {es : List En} {hs : List Int} {bs : List Nat} {fz : Bool} (h : Rt w Q R es hs bs fz) (hl : es.length ≤ 1000000000) (first : Int) (hf : 0 ≤ first ∧ first ≤ 18446744073709551615) (a : Option Addr) (cap : Nat) (ws : List Wr) (hw : IsWr w a ws) (hn : ws.length = n) (haR : ∀ b off, ws ≠ [] → a = some ⟨b, off, none⟩ → b ≠ R) :
    Calls Try.prog 78 #[.pointer (some ⟨Q, 0, none⟩), .int .u64 first, .slice a n cap] w fun r w' => r = .returned (.int .i64 (addE fz ws)) ∧ RAddAns w Q R bs fz es first ws w' := by
  have HR : Hid (Rt w Q R es hs bs fz) := h
  have HW : Hid (IsWr w a ws ∧ ws.length = n ∧ ∀ b off, ws ≠ [] → a = some ⟨b, off, none⟩ → b ≠ R) := ⟨hw, hn, haR⟩
  have HK0 : Hid (Rk w w Q R bs fz es hs bs) := ⟨h, Keep.refl _ _, fun b hb => .inl hb⟩
  have c1 := h.c1
  have hn9 : (n : Int) ≤ 9223372036854775807 := by have := hw.2.1; unfold maxLen at this; omega
  clear h hw hn haR
  cases fz with
  | true =>
    have HE : Hid (addE true ws = 60) := rfl
    go_enter Try.func78, Try.ntmps78
    go_wp2
    go_ret
    refine ⟨by rw [HE.out]; rfl, hs, bs, ?_⟩
    rw [if_neg (by rw [HE.out]; decide)]
    exact HK0.out
  | false =>
    have HE : Hid (addE false ws = errB ws) := rfl
    have HCB : Hid _ := refCheck6 a cap n ws w HW.out.1 HW.out.2.1
    go_enter Try.func78, Try.ntmps78
    go_wp2_with fail
    refine Calls.mono HCB.out ?_
    rintro e w1 ⟨rfl, hb1⟩
    have HK1 : Hid (Rk w w1 Q R bs false es hs bs ∧ Below w.heap.size w w1) := ⟨HK0.out.below hb1, hb1⟩
    clear hb1 HCB
    by_cases he : errB ws = 0
    · have HE0 : Hid (errB ws = 0) := he
      have g0 : (errB ws != 0) = false := by simp [he]
      rw [he]
      have HFL : Hid (first = Ents.seqAt first 0) := by
        show first = _
        unfold Ents.seqAt
        rw [Int.natCast_zero, Int.add_zero]
        exact (IntWalk.u64_in _ (by omega)).symm
      have hn16 : n ≤ 16 := by
        have := HW.out.2.1
        unfold errB at he
        split at he
        · cases he
        · omega
      clear he g0
      go_wp2
      go_loopw [8, 9] (fun s i wr => ∃ (k : Nat) (hs' : List Int) (bs' : List Nat), k ≤ n ∧ s = .int .u64 (Ents.seqAt first k) ∧ i = .int .i64 (k : Int) ∧ Hid (Rk w wr Q R bs false (((Ents.ents first ws).take k).foldl rput es) hs' bs')) (fun _ i _ => n - (intOf i).toNat)
      case atStart => exact ⟨0, hs, bs, Nat.zero_le _, by rw [← HFL.out], rfl, HK1.out.1⟩
      case round =>
        obtain ⟨k, hs', bs', hk, rfl, rfl, HK⟩ := hrel
        rename World => wr
        by_cases hlt : k < n
        · have hkl : k < ws.length := by rw [HW.out.2.1]; exact hlt
          obtain ⟨b, off, rfl, hb, c0, c1', c2⟩ := isWr_row HW.out.1 hkl
          have hbR := HW.out.2.2 b off (by rintro rfl; simp at hkl) rfl
          have HXE : Hid ((Ents.ents first ws)[k]? = some (ws[k].1, Ents.seqAt first k, ws[k].2.1, val ws[k].2.1 ws[k].2.2)) := Ents.ents_get (List.getElem?_eq_getElem hkl)
          have HOX : Hid (okE (ws[k].1, Ents.seqAt first k, ws[k].2.1, val ws[k].2.1 ws[k].2.2)) := ents_ok first HE0.out _ (List.mem_of_getElem? HXE.out)
          have HLN : Hid ((((Ents.ents first ws).take k).foldl rput es).length + 1 ≤ 2932031007402) := by
            have := rputs_len (l := (Ents.ents first ws).take k) (es := es)
            rw [List.length_take, Ents.ents_length, HW.out.2.1] at this
            show _ ≤ _
            omega
          have HTK : Hid (((Ents.ents first ws).take (k + 1)).foldl rput es = rput (((Ents.ents first ws).take k).foldl rput es) (ws[k].1, Ents.seqAt first k, ws[k].2.1, val ws[k].2.1 ws[k].2.2)) := by
            show ((Ents.ents first ws).take (k + 1)).foldl rput es = _
            rw [List.take_add_one, HXE.out, List.foldl_append]
            rfl
          have HSQ : Hid (IntKind.u64.wrap (Ents.seqAt first k + 1) = Ents.seqAt first (k + 1)) := by
            show _ = _
            unfold Ents.seqAt
            have e1 : first + ((k + 1 : Nat) : Int) = (first + (k : Int)) + 1 := by omega
            rw [e1, IntKind.wrap_u64, IntKind.wrap_u64, IntKind.wrap_u64]
            omega
          generalize ws[k] = x at *
          obtain ⟨xk, xd, xv⟩ := x
          dsimp only at c0 c1' c2 HOX HXE HTK
          generalize ((Ents.ents first ws).take k).foldl rput es = es1 at *
          generalize Ents.seqAt first k = sq at *
          have HCS : Hid (∀ W hs' bs' es', Rk w W Q R bs false es' hs' bs' → W.cell? ⟨Q, 0, none⟩ = some (.pointer (some ⟨R, 0, none⟩)) ∧ W.cell? ⟨b, off + k * 3, none⟩ = some (.string xk) ∧ W.cell? ⟨b, off + k * 3 + 1, none⟩ = some (.bool xd) ∧ W.cell? ⟨b, off + k * 3 + 2, none⟩ = some (.string xv)) := fun W hs' bs' es' hW => ⟨hW.t.c0, (hW.go.cell (p := ⟨b, _, none⟩) hb (by simp; exact hbR)).trans c0, (hW.go.cell (p := ⟨b, _, none⟩) hb (by simp; exact hbR)).trans c1', (hW.go.cell (p := ⟨b, _, none⟩) hb (by simp; exact hbR)).trans c2⟩
          have HPU : Hid (∀ W, Rk w W Q R bs false es1 hs' bs' → Calls Try.prog 93 #[.pointer (some ⟨R, 0, none⟩), .agg #[.string xk, .int .u64 sq, .bool xd, .string (val xd xv)]] W fun r w' => ∃ ok hs'' bs'', r = .returned (.bool ok) ∧ Rk w w' Q R bs false (rput es1 (xk, sq, xd, val xd xv)) hs'' bs'') := fun W hW => hW.put HR.out.lt HR.out.ne.2 HLN.out (xk, sq, xd, val xd xv) HOX.out
          have q1 : (k : Int) < (n : Int) := by omega
          clear c0 c1' c2 hb hbR hkl HLN
          go_wp2
          go_region_held3 (fun W => W.cell? ⟨Q, 0, none⟩ = some (.pointer (some ⟨R, 0, none⟩)) ∧ W.cell? ⟨b, off + k * 3, none⟩ = some (.string xk) ∧ W.cell? ⟨b, off + k * 3 + 1, none⟩ = some (.bool xd) ∧ W.cell? ⟨b, off + k * 3 + 2, none⟩ = some (.string xv)) (first | assumption | exact HCS.out _ _ _ _ (HK.out.below (Below.refl _ _).drew))
            (first
              | (go_at_call 94; refine (refEntry6 _ _ _ _ _).mono ?_; rintro r wX ⟨rfl, hbX⟩; have HX : Hid (Rk w wX Q R bs false es1 hs' bs') := (HK.out.below (Below.refl _ _).drew).below hbX; have hSX := HCS.out _ _ _ _ HX.out; clear hbX)
              | (go_at_call 93; refine (HPU.out _ HX.out).mono ?_; rintro r wY ⟨okY, hsY, bsY, rfl, hY⟩; have HY : Hid (Rk w wY Q R bs false (rput es1 (xk, sq, xd, val xd xv)) hsY bsY) := hY; have hSY := HCS.out _ _ _ _ hY; clear hY))
          go_wp2
          go_roundw
          case rel => exact ⟨k + 1, hsY, bsY, by omega, by rw [HSQ.out], by go_num, by rw [HTK.out]; exact HY⟩
          case measure => simp [intOf]; omega
        · obtain rfl : k = n := by omega
          have HT : Hid ((Ents.ents first ws).take k = Ents.ents first ws) := by show _ = _; rw [List.take_of_length_le (by rw [Ents.ents_length, HW.out.2.1]; exact Nat.le_refl _)]
          rw [HT.out] at HK
          go_wp2
          go_ret
          refine ⟨by rw [HE.out, HE0.out]; rfl, hs', bs', ?_⟩
          rw [if_pos (by rw [HE.out]; exact HE0.out)]
          exact HK.out
    · have HE0 : Hid (errB ws ≠ 0) := he
      have g0 : (errB ws != 0) = true := by simp [he]
      clear he
      go_wp2
      go_ret
      refine ⟨by rw [HE.out]; rfl, hs, bs, ?_⟩
      rw [if_neg (by rw [HE.out]; exact HE0.out)]
      exact HK1.out.1
end Mem
end Go.Proofs.Ytcioaoanhmpdkaa
