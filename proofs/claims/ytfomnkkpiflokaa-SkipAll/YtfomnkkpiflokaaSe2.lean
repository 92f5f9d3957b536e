import Derived.Test.YtfomnkkpiflokaaSe1
import Derived.Test.YtfomnkkpiflokaaUnd
import Derived.Deep.RegionHeld3
import Derived.BigQuiet
namespace Go.Proofs.Ytfomnkkpiflokaa
namespace SkipSeek
open Go.RowKit Laws Irw Erw KMath Skm Byt Sk SkipOrder
set_option linter.unusedVariables false
set_option maxRecDepth 100000
set_option linter.unusedSimpArgs false

theorem seekV_eq (post : List Nd) {al : List En} {NP : Nat} (h : post.map Nd.e = al) (hn : al.length = NP) : seekV post = .tuple #[.agg #[.string (al.getD 0 ez).1, .int .u64 (al.getD 0 ez).2.1, .bool (al.getD 0 ez).2.2.1, .string (al.getD 0 ez).2.2.2], .bool (decide (0 < NP))] := by
  subst h
  subst hn
  cases post with
  | nil => rfl
  | cons n r => simp [seekV]
theorem ent_of_obj {w : World} {b t : Nat} {e : En} (h : w.heap[b]? = some (.cells #[.string e.1, .int .u64 e.2.1, .bool e.2.2.1, .string e.2.2.2] t)) : entAt w b e := ⟨by rw [cell_of_obj h]; rfl, by rw [cell_of_obj h]; rfl, by rw [cell_of_obj h]; rfl, by rw [cell_of_obj h]; rfl⟩
/-- what stands in the second loop -/
structure Bst (W0 W : World) (B : Nat) (k : ByteArray) (s : Int) (l : List En) (f : Bool) (b : En) : Prop where
  low : Below W0.heap.size W0 W
  new : W0.heap.size ≤ B
  lt : B < W.heap.size
  ent : entAt W B b
  fro : ∀ j, W.frozen? ⟨B, j, none⟩ = false
  best : Best k s l f b
theorem Bst.below {W0 W W' : World} {B : Nat} {k : ByteArray} {s : Int} {l : List En} {f : Bool} {b : En} (h : Bst W0 W B k s l f b) (hb : Below W.heap.size W W') : Bst W0 W' B k s l f b :=
  ⟨keepB hb h.low, h.new, Nat.lt_of_lt_of_le h.lt hb.size, h.ent.keep (hb.block _ h.lt), fun j => by rw [← h.fro j]; exact World.frozen?_of_block (hb.block _ h.lt), h.best⟩
theorem Bst.drew {W0 W : World} {B : Nat} {k : ByteArray} {s : Int} {l : List En} {f : Bool} {b : En} (h : Bst W0 W B k s l f b) (n : Nat) : Bst W0 (W.drewN n) B k s l f b := h.below (below_drewN (Below.refl _ _) n)
theorem Bst.with {W0 W : World} {B : Nat} {k : ByteArray} {s : Int} {l l' : List En} {f f' : Bool} {b : En} (h : Bst W0 W B k s l f b) (hb : Best k s l' f' b) : Bst W0 W B k s l' f' b := ⟨h.low, h.new, h.lt, h.ent, h.fro, hb⟩
theorem Bst.set {W0 W : World} {B : Nat} {k : ByteArray} {s : Int} {l l' : List En} {f f' : Bool} {b : En} (h : Bst W0 W B k s l f b) (x : En) (hb : Best k s l' f' x) : Bst W0 ((((W.setCell ⟨B, 0, none⟩ (.string x.1)).setCell ⟨B, 1, none⟩ (.int .u64 x.2.1)).setCell ⟨B, 2, none⟩ (.bool x.2.2.1)).setCell ⟨B, 3, none⟩ (.string x.2.2.2)) B k s l' f' x :=
  ⟨(((h.low.setCell (p := ⟨B, 0, none⟩) h.new _).setCell (p := ⟨B, 1, none⟩) h.new _).setCell (p := ⟨B, 2, none⟩) h.new _).setCell (p := ⟨B, 3, none⟩) h.new _, h.new, by simpa using h.lt, set4_cells h.ent, fun j => by simp [h.fro j], hb⟩

set_option maxHeartbeats 8000000 in
theorem walk (w : World) (ad : Option Addr) (cd : Nat) (ds : List Nat) (hd : IsB w ad ds) (hdn : ad = none → cd = 0) (hd47 : ds.length ≤ 140737488355328) (a : Option Addr) (c : Nat) (l : List En) (hl : IsE w a l) (hlen : l.length ≤ 2932031007402) (key : ByteArray) (seq : Int) :
    Calls Try.prog 6 #[.slice ad ds.length cd, .slice a l.length c, .string key, .int .u64 seq] w fun e w' => e = .returned (.bool true) ∧ Below w.heap.size w w' := by
  have HD : Hid (IsB w ad ds ∧ (ad = none → cd = 0)) := ⟨hd, hdn⟩
  have HL : Hid (IsE w a l) := hl
  obtain ⟨N, hN⟩ : ∃ N, l.length = N := ⟨_, rfl⟩
  have HN : Hid (l.length = N) := hN
  have HMD : Hid (∀ W, IsB W ad ds → IsE W a l → Calls Try.prog 17 #[.slice ad ds.length cd, .slice a N c] W fun e w' => ∃ L v, e = .returned (.tuple #[.pointer (some ⟨L, 0, none⟩), v]) ∧ MadeAns W ds l L v w') := fun W h1 h2 => by
    have := made_any W ad cd ds h1 hdn hd47 a c l h2 hlen
    rw [hN] at this
    exact this
  rw [hN] at hlen ⊢
  clear hd hdn hl hN
  go_enter Try.func6, Try.ntmps6
  go_wp2_with fail
  refine (known_any w).mono ?_
  rintro e w1 ⟨rfl, hb1⟩
  have HB1 : Hid (Below w.heap.size w w1) := hb1
  clear hb1
  go_wp2_with fail
  refine (HMD.out w1 (HD.out.1.below HB1.out) (HL.out.below HB1.out)).mono ?_
  rintro e w2 ⟨L, v, rfl, T, ns, ins, hmk, hmi⟩
  obtain ⟨ai, ci, rfl, hii, hci, hni⟩ := hmk.own.form
  have hlin : ns.length = ins.length := by have := hmi.perm.length_eq; rw [List.length_map] at this; exact this
  have hinN : ins.length ≤ N := by have := hmi.len; rw [HN.out] at this; exact this
  obtain ⟨NI, hNI⟩ : ∃ NI, ins.length = NI := ⟨_, rfl⟩
  rw [hNI] at hlin hinN ⊢
  have HB2 : Hid (Below w.heap.size w w2) := HB1.out.trans (hmk.old.below.mono HB1.out.size)
  have HSL : Hid (Sl 1 T w2 L ds ns) := hmk.sl
  have HMI : Hid (MadeIs ds l ns ins ∧ ns.length = NI ∧ ins.length = NI) := ⟨hmi, hlin, hNI⟩
  have HII : Hid (IsE w2 ai ins) := hii
  have hNIb : (NI : Int) ≤ 2932031007402 := by omega
  clear hmk hmi hii hci hni hlin hNI HMD hinN hlen
  have hb3 : Below w2.heap.size w2 (w2.alloc (.cells #[.string key, .int .u64 seq, .bool false, .string ⟨#[]⟩] 53)) := (Below.refl _ _).alloc (Nat.le_refl _) _
  have g3 : (w2.alloc (.cells #[.string key, .int .u64 seq, .bool false, .string ⟨#[]⟩] 53)).heap[w2.heap.size]? = some (.cells #[.string key, .int .u64 seq, .bool false, .string ⟨#[]⟩] 53) := World.alloc_heap_new _ _
  go_wp2_with fail
  generalize w2.alloc (.cells #[.string key, .int .u64 seq, .bool false, .string ⟨#[]⟩] 53) = W3 at *
  obtain ⟨BA, hBA⟩ : ∃ BA, w2.heap.size = BA := ⟨_, rfl⟩
  have HBA : Hid (BA < W3.heap.size ∧ W3.heap[BA]? = some (.cells #[.string key, .int .u64 seq, .bool false, .string ⟨#[]⟩] 53)) := ⟨by rw [← hBA]; exact (Array.getElem?_eq_some_iff.1 g3).1, by rw [← hBA]; exact g3⟩
  have HB3 : Hid (Below w2.heap.size w2 W3) := hb3
  rw [hBA]
  clear g3 hb3
  refine (from_any L key seq W3).mono ?_
  rintro e w4 ⟨rfl, hw3⟩
  have hb4 : Below W3.heap.size W3 w4 := by rw [hw3]; exact (((Below.refl _ _).alloc (Nat.le_refl _) _).alloc (by simp) _).alloc (by simp; omega) _
  have k1 : w4.cell? ⟨W3.heap.size, 0, none⟩ = some (.pointer (some ⟨L, 0, none⟩)) := by
    rw [hw3, World.cell?_of_block (Below.heap_alloc _ _ _ (by simp <;> omega)), World.cell?_of_block (Below.heap_alloc _ _ _ (by simp <;> omega)), World.cell?_alloc_at _ _ _ _ rfl]; rfl
  have k2 : w4.cell? ⟨W3.heap.size + 1, 0, none⟩ = some (.string key) := by
    rw [hw3, World.cell?_of_block (Below.heap_alloc _ _ _ (by simp <;> omega)), World.cell?_alloc_at _ _ _ _ (by simp)]; rfl
  have k3 : w4.cell? ⟨W3.heap.size + 2, 0, none⟩ = some (.int .u64 seq) := by
    rw [hw3, World.cell?_alloc_at _ _ _ _ (by simp)]; rfl
  clear hw3
  have hsl4 : Sl 1 T w4 L ds ns := (HSL.out.below HB3.out).below hb4
  obtain ⟨pre, post, hwk⟩ := Wk.of hsl4 key seq
  have HTA : Hid _ := taken_all W3.heap.size (W3.heap.size + 1) (W3.heap.size + 2) L key seq ns pre post w4 hwk k1 k2 k3 (by have := HMI.out.2.1; omega)
  have HPI : Hid (PartIs key seq ins (post.map Nd.e)) := PartIs.of hwk HMI.out.1 HSL.out.sorted
  have HPO : Hid (ns.dropWhile (aheadB key seq) = post ∧ post.length ≤ NI) := ⟨(post_of hwk).symm, by rw [← HMI.out.2.1, hwk.cut]; simp⟩
  have HSL4 : Hid (Sl 1 T w4 L ds ns) := hsl4
  have HB4 : Hid (Below W3.heap.size W3 w4) := hb4
  clear hwk k1 k2 k3 hsl4 HSL hb4
  obtain ⟨al, hal⟩ : ∃ al, post.map Nd.e = al := ⟨_, rfl⟩
  obtain ⟨NP, hNP⟩ : ∃ NP, al.length = NP := ⟨_, rfl⟩
  have hpl : post.length = NP := by rw [← hNP, ← hal, List.length_map]
  have HNP : Hid (al.length = NP) := hNP
  have hNPb : (NP : Int) ≤ 2932031007402 := by have := HPO.out.2; rw [hpl] at this; omega
  have HSE : Hid (seekV post = .tuple #[.agg #[.string (al.getD 0 ez).1, .int .u64 (al.getD 0 ez).2.1, .bool (al.getD 0 ez).2.2.1, .string (al.getD 0 ez).2.2.2], .bool (decide (0 < NP))]) := seekV_eq post hal hNP
  rw [hal, hpl] at HTA
  rw [hal] at HPI
  clear hNP
  go_wp2_with fail
  refine Calls.mono HTA.out ?_
  rintro e w5 ⟨a5, c5, rfl, hi5, hn5, hb5⟩
  have HB5 : Hid (Below W3.heap.size W3 w5) := keepB hb5 HB4.out
  have HI5 : Hid (IsE w5 a5 al) := hi5
  have HSEEK : Hid (Calls Try.prog 24 #[.pointer (some ⟨L, 0, none⟩), .string key, .int .u64 seq] w5 fun e w' => e = .returned (.tuple #[.agg #[.string (al.getD 0 ez).1, .int .u64 (al.getD 0 ez).2.1, .bool (al.getD 0 ez).2.2.1, .string (al.getD 0 ez).2.2.2], .bool (decide (0 < NP))]) ∧ Below w5.heap.size w5 w') := by
    have h := seek_any (HSL4.out.below hb5) key seq
    rw [HPO.out.1, HSE.out] at h
    exact h
  clear hi5 hn5 hb5 HTA HB4 HSL4 HSE HPO hal hpl
  go_wp2_with fail
  refine HSEEK.out.mono ?_
  rintro e w6 ⟨rfl, hb6⟩
  clear HSEEK
  obtain ⟨ev, hev⟩ : ∃ ev, al.getD 0 ez = ev := ⟨_, rfl⟩
  have HEV : Hid (al.getD 0 ez = ev) := hev
  rw [hev]
  clear hev
  obtain ⟨ek, es, ed, ex⟩ := ev
  have hb7 : Below w6.heap.size w6 (w6.alloc (.cells #[.string ek, .int .u64 es, .bool ed, .string ex] 53)) := (Below.refl _ _).alloc (Nat.le_refl _) _
  have g7 : (w6.alloc (.cells #[.string ek, .int .u64 es, .bool ed, .string ex] 53)).heap[w6.heap.size]? = some (.cells #[.string ek, .int .u64 es, .bool ed, .string ex] 53) := World.alloc_heap_new _ _
  dsimp only
  have hpos : (decide (0 < NP) = true ∧ 0 < (NP : Int) ∧ 0 < al.length) ∨ (decide (0 < NP) = false ∧ (NP : Int) = 0 ∧ (ek, es, ed, ex) = ez) := by
    by_cases h : 0 < NP
    · exact .inl ⟨by simpa using h, by omega, by rw [HNP.out]; exact h⟩
    · refine .inr ⟨by simpa using h, by omega, ?_⟩
      rw [← HEV.out]
      have : al = [] := by
        have := HNP.out
        rw [← List.length_eq_zero_iff]; omega
      rw [this]; rfl
  have HB67 : Hid (Below W3.heap.size W3 (w6.alloc (.cells #[.string ek, .int .u64 es, .bool ed, .string ex] 53))) := keepB (keepB hb7 hb6) HB5.out
  have HX0 : Hid (Below w5.heap.size w5 (w6.alloc (.cells #[.string ek, .int .u64 es, .bool ed, .string ex] 53))) := keepB hb7 hb6
  clear hb6 hb7
  generalize decide (0 < NP) = isB at *
  go_wp2_with fail

  generalize w6.alloc (.cells #[.string ek, .int .u64 es, .bool ed, .string ex] 53) = W7 at *
  obtain ⟨BE, hBE⟩ : ∃ BE, w6.heap.size = BE := ⟨_, rfl⟩
  have hBEl : BE < W7.heap.size := by rw [← hBE]; exact (Array.getElem?_eq_some_iff.1 g7).1
  have HE7 : Hid (∀ W, Below W7.heap.size W7 W → entAt W BE (ek, es, ed, ex)) := fun W hW => ent_of_obj (t := 53) ((hW.block _ hBEl).trans (by rw [← hBE]; exact g7))
  have HA7 : Hid (∀ W, Below W7.heap.size W7 W → entAt W BA (key, seq, false, ⟨#[]⟩)) := fun W hW => ent_of_obj (t := 53) (((keepB hW HB67.out).block _ HBA.out.1).trans HBA.out.2)
  have HI7 : Hid (IsE W7 ai ins) := (HII.out.below HB3.out).below HB67.out
  have HP7 : Hid (IsE W7 a5 al) := HI5.out.below HX0.out
  have HB7 : Hid (Below w.heap.size w W7) := HB2.out.trans ((keepB HB67.out HB3.out).mono HB2.out.size)
  rw [hBE]
  clear g7 hBE hBEl HX0 HI5 HII HBA HB67 HB3 HB5 HB2 HB1 HD HL HN hBA
  rcases hpos with ⟨rfl, hp1, hp2⟩ | ⟨rfl, hp1, hp2⟩
  · obtain ⟨b5, o5, rfl, _, x0, x1, x2, x3⟩ := rd HP7.out hp2
    rw [HEV.out] at x0 x1 x2 x3
    simp only [Nat.zero_mul, Nat.add_zero] at x0 x1 x2 x3
    obtain ⟨y0, y1, y2, y3⟩ := HE7.out W7 (Below.refl _ _)
    dsimp only at x0 x1 x2 x3 y0 y1 y2 y3
    have HP2 : Hid (0 < al.length) := hp2
    clear hp2
    have hp3 : decide (0 < (NP : Int)) = true := decide_eq_true hp1
    have hp4 : ¬ (NP : Int) ≤ 0 := by omega
    have hp5 : 0 < NP := by omega
    go_quiet (fail)
    have HB8 : Hid (Below W7.heap.size W7 (W7.drewN nq)) := below_drewN (Below.refl _ _) nq
    generalize W7.drewN nq = W8 at *
    clear x0 x1 x2 x3 y0 y1 y2 y3
    go_wp2
    go_loopw [16, 17] (fun n i wr => ∃ m : Nat, m ≤ NI ∧ i = .int .i64 (m : Int) ∧ n = .int .i64 ((cnt (fun y => !ahB y (atE key seq)) ins m : Nat) : Int) ∧ Hid (Below W7.heap.size W7 wr)) (fun _ i _ => NI - (intOf i).toNat)
    case atStart => exact ⟨0, Nat.zero_le _, rfl, rfl, HB8⟩
    case round =>
      clear HB8
      obtain ⟨m, hm, rfl, rfl, HBR⟩ := hrel
      rename World => wq
      by_cases hlm : m < NI
      · have hml : m < ins.length := by rw [HMI.out.2.2]; exact hlm
        obtain ⟨bi, oi, rfl, _, _⟩ := rd (HI7.out.below HBR.out) hml
        have HP8 : Hid (∀ w', Below wq.heap.size wq w' → w'.cell? ⟨bi, oi + m * 4, none⟩ = some (.string (ins.getD m ez).1) ∧ w'.cell? ⟨bi, oi + m * 4 + 1, none⟩ = some (.int .u64 (ins.getD m ez).2.1) ∧ w'.cell? ⟨bi, oi + m * 4 + 2, none⟩ = some (.bool (ins.getD m ez).2.2.1) ∧ w'.cell? ⟨bi, oi + m * 4 + 3, none⟩ = some (.string (ins.getD m ez).2.2.2) ∧ w'.cell? ⟨BA, 0, none⟩ = some (.string key) ∧ w'.cell? ⟨BA, 1, none⟩ = some (.int .u64 seq) ∧ w'.cell? ⟨BA, 2, none⟩ = some (.bool false) ∧ w'.cell? ⟨BA, 3, none⟩ = some (.string ⟨#[]⟩)) := fun V hV => by
          obtain ⟨b6, o6, e6, _, h6⟩ := rd (HI7.out.below (keepB hV HBR.out)) hml
          simp only [Option.some.injEq, Addr.mk.injEq] at e6
          obtain ⟨rfl, rfl, _⟩ := e6
          obtain ⟨v0, v1, v2, v3⟩ := HA7.out V (keepB hV HBR.out)
          exact ⟨h6.1, h6.2.1, h6.2.2.1, h6.2.2.2, v0, v1, v2, v3⟩
        have HAHD : Hid (∀ W, Calls Try.prog 20 #[.agg #[.string (ins.getD m ez).1, .int .u64 (ins.getD m ez).2.1, .bool (ins.getD m ez).2.2.1, .string (ins.getD m ez).2.2.2], .agg #[.string key, .int .u64 seq, .bool false, .string ⟨#[]⟩]] W fun e w' => e = .returned (.bool (ahB (ins.getD m ez) (atE key seq))) ∧ Below W.heap.size W w') := fun W => ahead_law (ins.getD m ez) (atE key seq) W
        have hst := cnt_step (p := fun y => !ahB y (atE key seq)) hml
        have hcl := cnt_le (fun y => !ahB y (atE key seq)) ins m
        have q2 : (m : Int) < (NI : Int) := by omega
        have hcB : ((cnt (fun y => !ahB y (atE key seq)) ins m : Nat) : Int) ≤ 2932031007402 := by omega
        have hc0 : 0 ≤ ((cnt (fun y => !ahB y (atE key seq)) ins m : Nat) : Int) := by omega
        generalize ins.getD m ez = y at *
        cases hab : ahB y (atE key seq) with
        | true =>
          rw [hab] at HAHD
          have HST : Hid (((cnt (fun y => !ahB y (atE key seq)) ins (m + 1) : Nat) : Int) = ((cnt (fun y => !ahB y (atE key seq)) ins m : Nat) : Int)) := by
            show ((cnt (fun y => !ahB y (atE key seq)) ins (m + 1) : Nat) : Int) = _
            rw [hst, hab]; simp
          clear hst hcl hab
          generalize ((cnt (fun y => !ahB y (atE key seq)) ins m : Nat) : Int) = cc at *
          go_wp2
          go_region_held3 (fun w' => Below wq.heap.size wq w' ∧ w'.cell? ⟨bi, oi + m * 4, none⟩ = some (.string y.1) ∧ w'.cell? ⟨bi, oi + m * 4 + 1, none⟩ = some (.int .u64 y.2.1) ∧ w'.cell? ⟨bi, oi + m * 4 + 2, none⟩ = some (.bool y.2.2.1) ∧ w'.cell? ⟨bi, oi + m * 4 + 3, none⟩ = some (.string y.2.2.2) ∧ w'.cell? ⟨BA, 0, none⟩ = some (.string key) ∧ w'.cell? ⟨BA, 1, none⟩ = some (.int .u64 seq) ∧ w'.cell? ⟨BA, 2, none⟩ = some (.bool false) ∧ w'.cell? ⟨BA, 3, none⟩ = some (.string ⟨#[]⟩)) (first | assumption | exact ⟨(Below.refl _ _).drew, HP8.out _ ((Below.refl _ _).drew)⟩ | exact keep8 HP8.out (by assumption) (by assumption))
            (first
              | (go_at_call 20; refine (HAHD.out _).mono ?_; rintro e wA ⟨rfl, hb9⟩))
          have HBR2 : Hid (Below W7.heap.size W7 wA) := by rename_i hz; exact keepB hz.1 HBR.out
          clear HBR HP8 HAHD
          go_wp2
          go_roundw
          case rel => exact ⟨m + 1, by omega, by go_num, by rw [HST.out], HBR2⟩
          case measure => simp [intOf]; omega
        | false =>
          rw [hab] at HAHD
          have HST : Hid (((cnt (fun y => !ahB y (atE key seq)) ins (m + 1) : Nat) : Int) = ((cnt (fun y => !ahB y (atE key seq)) ins m : Nat) : Int) + 1) := by
            show ((cnt (fun y => !ahB y (atE key seq)) ins (m + 1) : Nat) : Int) = _
            rw [hst, hab]; simp
          clear hst hcl hab
          generalize ((cnt (fun y => !ahB y (atE key seq)) ins m : Nat) : Int) = cc at *
          go_wp2
          go_region_held3 (fun w' => Below wq.heap.size wq w' ∧ w'.cell? ⟨bi, oi + m * 4, none⟩ = some (.string y.1) ∧ w'.cell? ⟨bi, oi + m * 4 + 1, none⟩ = some (.int .u64 y.2.1) ∧ w'.cell? ⟨bi, oi + m * 4 + 2, none⟩ = some (.bool y.2.2.1) ∧ w'.cell? ⟨bi, oi + m * 4 + 3, none⟩ = some (.string y.2.2.2) ∧ w'.cell? ⟨BA, 0, none⟩ = some (.string key) ∧ w'.cell? ⟨BA, 1, none⟩ = some (.int .u64 seq) ∧ w'.cell? ⟨BA, 2, none⟩ = some (.bool false) ∧ w'.cell? ⟨BA, 3, none⟩ = some (.string ⟨#[]⟩)) (first | assumption | exact ⟨(Below.refl _ _).drew, HP8.out _ ((Below.refl _ _).drew)⟩ | exact keep8 HP8.out (by assumption) (by assumption))
            (first
              | (go_at_call 20; refine (HAHD.out _).mono ?_; rintro e wA ⟨rfl, hb9⟩))
          have HBR2 : Hid (Below W7.heap.size W7 wA) := by rename_i hz; exact keepB hz.1 HBR.out
          clear HBR HP8 HAHD
          go_wp2
          go_roundw
          case rel => exact ⟨m + 1, by omega, by go_num, by rw [HST.out], HBR2⟩
          case measure => simp [intOf]; omega
      · obtain rfl : m = NI := by omega
        have hone : ((cnt (fun y => !ahB y (atE key seq)) ins m : Nat) : Int) = (NP : Int) := by
          have := HPI.out.count
          rw [HMI.out.2.2, HNP.out] at this
          rw [this]
        rw [hone]
        clear hone
        have hb9 : Below wq.heap.size wq (wq.alloc (.cells #[.string ⟨#[]⟩, .int .u64 0, .bool false, .string ⟨#[]⟩] 53)) := (Below.refl _ _).alloc (Nat.le_refl _) _
        have g9 : (wq.alloc (.cells #[.string ⟨#[]⟩, .int .u64 0, .bool false, .string ⟨#[]⟩] 53)).heap[wq.heap.size]? = some (.cells #[.string ⟨#[]⟩, .int .u64 0, .bool false, .string ⟨#[]⟩] 53) := World.alloc_heap_new _ _
        have HBS : Hid (Bst W7 (wq.alloc (.cells #[.string ⟨#[]⟩, .int .u64 0, .bool false, .string ⟨#[]⟩] 53)) wq.heap.size key seq (ins.take 0) false ez) := ⟨keepB hb9 HBR.out, HBR.out.size, (Array.getElem?_eq_some_iff.1 g9).1, ent_of_obj (e := ez) g9, fun j => froz_of_obj g9, by rw [List.take_zero]; exact Best.nil _ _ _⟩
        clear hb9 g9 HBR
        go_wp2_with fail
        generalize wq.alloc (.cells #[.string ⟨#[]⟩, .int .u64 0, .bool false, .string ⟨#[]⟩] 53) = W9 at *
        generalize wq.heap.size = BB at *
        go_wp2
        go_loopw [19, 20] (fun f i wr => ∃ (q : Nat) (fb : Bool) (b : En), q ≤ m ∧ i = .int .i64 (q : Int) ∧ f = .bool fb ∧ Hid (Bst W7 wr BB key seq (ins.take q) fb b)) (fun _ i _ => m - (intOf i).toNat)
        case atStart => exact ⟨0, false, ez, Nat.zero_le _, rfl, rfl, HBS⟩
        case round =>
          clear HBS
          obtain ⟨q, fb, b, hq, rfl, rfl, HBS⟩ := hrel
          rename World => wB
          by_cases hlq : q < m
          · have hql : q < ins.length := by rw [HMI.out.2.2]; exact hlq
            obtain ⟨bi, oi, rfl, _, y0, y1, y2, y3⟩ := rd (HI7.out.below HBS.out.low) hql
            have q2 : (q : Int) < (m : Int) := by omega
            have HTK : Hid (ins.take q ++ [ins.getD q ez] = ins.take (q + 1)) := by
              show ins.take q ++ [ins.getD q ez] = ins.take (q + 1)
              rw [List.take_succ_eq_append_getElem hql]
              simp [hql]
            have HY7 : Hid (∀ W, Below W7.heap.size W7 W → W.cell? ⟨bi, oi + q * 4, none⟩ = some (.string (ins.getD q ez).1) ∧ W.cell? ⟨bi, oi + q * 4 + 1, none⟩ = some (.int .u64 (ins.getD q ez).2.1) ∧ W.cell? ⟨bi, oi + q * 4 + 2, none⟩ = some (.bool (ins.getD q ez).2.2.1) ∧ W.cell? ⟨bi, oi + q * 4 + 3, none⟩ = some (.string (ins.getD q ez).2.2.2)) := fun W hW => by
              obtain ⟨b6, o6, e6, _, h6⟩ := rd (HI7.out.below hW) hql
              simp only [Option.some.injEq, Addr.mk.injEq] at e6
              obtain ⟨rfl, rfl, _⟩ := e6
              exact h6
            generalize ins.getD q ez = y at *
            obtain ⟨yk, ys, yd, yv⟩ := y
            dsimp only at y0 y1 y2 y3 HY7
            obtain ⟨b0, b1, b2, b3⟩ := HBS.out.ent
            have hlt := HBS.out.lt
            clear hql
            by_cases hkk : yk = key
            · subst hkk
              have h2' : (yk.toList == yk.toList) = true := by simp
              by_cases hle : ys ≤ seq
              · have hle2 : decide (ys ≤ seq) = true := decide_eq_true hle
                cases fb with
                | false =>
                  have HBT : Hid (Best yk seq (ins.take (q + 1)) true (yk, ys, yd, yv)) := by
                    rw [← HTK.out]; exact HBS.out.best.take _ (by simp [fitB, hle]) (.inl rfl)
                  go_wp2
                  go_quiet (fail)
                  have HBS2 := HBS.out.drew nq
                  have HBS3 : Hid (Bst W7 (wB.drewN nq) BB yk seq (ins.take q) false b) := HBS2
                  obtain ⟨z0, z1, z2, z3⟩ := HY7.out _ HBS2.low
                  obtain ⟨d0, d1, d2, d3⟩ := HBS2.ent
                  have fz := HBS2.fro
                  have hlt2 := HBS2.lt
                  clear HBS2 y0 y1 y2 y3 b0 b1 b2 b3 hlt HBS HY7
                  generalize wB.drewN nq = wC at *
                  go_wp2
                  go_roundw
                  case rel => exact ⟨q + 1, true, (yk, ys, yd, yv), by omega, by go_num, rfl, HBS3.out.set (yk, ys, yd, yv) HBT.out⟩
                  case measure => simp [intOf]; omega
                | true =>
                  by_cases hgt : b.2.1 < ys
                  · have hgt2 : decide (b.2.1 < ys) = true := decide_eq_true hgt
                    have HBT : Hid (Best yk seq (ins.take (q + 1)) true (yk, ys, yd, yv)) := by
                      rw [← HTK.out]; exact HBS.out.best.take _ (by simp [fitB, hle]) (.inr hgt)
                    go_wp2
                    go_quiet (fail)
                    have HBS2 := HBS.out.drew nq
                    have HBS3 : Hid (Bst W7 (wB.drewN nq) BB yk seq (ins.take q) true b) := HBS2
                    obtain ⟨z0, z1, z2, z3⟩ := HY7.out _ HBS2.low
                    obtain ⟨d0, d1, d2, d3⟩ := HBS2.ent
                    have fz := HBS2.fro
                    have hlt2 := HBS2.lt
                    clear HBS2 y0 y1 y2 y3 b0 b1 b2 b3 hlt HBS HY7
                    generalize wB.drewN nq = wC at *
                    go_wp2
                    go_roundw
                    case rel => exact ⟨q + 1, true, (yk, ys, yd, yv), by omega, by go_num, rfl, HBS3.out.set (yk, ys, yd, yv) HBT.out⟩
                    case measure => simp [intOf]; omega
                  · have hgt2 : decide (b.2.1 < ys) = false := decide_eq_false hgt
                    have HBT : Hid (Best yk seq (ins.take (q + 1)) true b) := by
                      rw [← HTK.out]; exact HBS.out.best.skip _ (.inr ⟨rfl, by show ys ≤ b.2.1; omega⟩)
                    clear hgt
                    go_wp2
                    go_quiet (fail)
                    go_wp2
                    go_roundw
                    case rel => exact ⟨q + 1, true, b, by omega, by go_num, rfl, (HBS.out.drew _).with HBT.out⟩
                    case measure => simp [intOf]; omega
              · have hle2 : decide (ys ≤ seq) = false := decide_eq_false hle
                have HBT : Hid (Best yk seq (ins.take (q + 1)) fb b) := by
                  rw [← HTK.out]; exact HBS.out.best.skip _ (.inl (by simp [fitB]; omega))
                clear hle
                go_wp2
                go_quiet (fail)
                go_wp2
                go_roundw
                case rel => exact ⟨q + 1, fb, b, by omega, by go_num, rfl, (HBS.out.drew _).with HBT.out⟩
                case measure => simp [intOf]; omega
            · have hs2 : (yk.toList == key.toList) = false := by
                rw [beq_eq_false_iff_ne]
                exact fun e => hkk (toList_inj e)
              have HBT : Hid (Best key seq (ins.take (q + 1)) fb b) := by
                rw [← HTK.out]; exact HBS.out.best.skip _ (.inl (by simp [fitB, hkk]))
              clear hkk
              go_wp2
              go_quiet (fail)
              go_wp2
              go_roundw
              case rel => exact ⟨q + 1, fb, b, by omega, by go_num, rfl, (HBS.out.drew _).with HBT.out⟩
              case measure => simp [intOf]; omega
          · obtain rfl : q = m := by omega
            have htk : ins.take q = ins := List.take_of_length_le (by rw [HMI.out.2.2]; exact Nat.le_refl _)
            rw [htk] at HBS
            clear htk
            go_wp2
            go_loopw [21] (fun i wr => ∃ k : Nat, k ≤ NP ∧ i = .int .i64 (k : Int) ∧ Hid (Bst W7 wr BB key seq ins fb b)) (fun i _ => NP - (intOf i).toNat)
            case atStart => exact ⟨0, Nat.zero_le _, rfl, HBS⟩
            case round =>
              clear HBS
              obtain ⟨k, hk, rfl, HBS⟩ := hrel
              rename World => wD
              by_cases hlk : k < NP
              · have hkl : k < al.length := by rw [HNP.out]; exact hlk
                have HX7 : Hid (∀ (j : Nat) (W : World), j < al.length → Below wD.heap.size wD W → W.cell? ⟨b5, o5 + j * 4, none⟩ = some (.string (al.getD j ez).1) ∧ W.cell? ⟨b5, o5 + j * 4 + 1, none⟩ = some (.int .u64 (al.getD j ez).2.1) ∧ W.cell? ⟨b5, o5 + j * 4 + 2, none⟩ = some (.bool (al.getD j ez).2.2.1) ∧ W.cell? ⟨b5, o5 + j * 4 + 3, none⟩ = some (.string (al.getD j ez).2.2.2)) := fun j W hj hW => by
                  obtain ⟨b6, o6, e6, _, h6⟩ := rd (HP7.out.below (keepB hW HBS.out.low)) hj
                  simp only [Option.some.injEq, Addr.mk.injEq] at e6
                  obtain ⟨rfl, rfl, _⟩ := e6
                  exact h6
                have hnot : ahB (al.getD k ez) (atE key seq) = false := by
                  have e : al.getD k ez = al[k] := by simp [hkl]
                  rw [e]; exact HPI.out.not _ (List.getElem_mem hkl)
                have HAHD : Hid (∀ W, Calls Try.prog 20 #[.agg #[.string (al.getD k ez).1, .int .u64 (al.getD k ez).2.1, .bool (al.getD k ez).2.2.1, .string (al.getD k ez).2.2.2], .agg #[.string key, .int .u64 seq, .bool false, .string ⟨#[]⟩]] W fun e w' => e = .returned (.bool false) ∧ Below W.heap.size W w') := fun W => by
                  have := ahead_law (al.getD k ez) (atE key seq) W
                  rw [hnot] at this
                  exact this
                clear hnot
                have q1 : (k : Int) < (NP : Int) := by omega
                cases k with
                | zero =>
                  have HP8 : Hid (∀ w', Below wD.heap.size wD w' → w'.cell? ⟨b5, o5, none⟩ = some (.string (al.getD 0 ez).1) ∧ w'.cell? ⟨b5, o5 + 1, none⟩ = some (.int .u64 (al.getD 0 ez).2.1) ∧ w'.cell? ⟨b5, o5 + 2, none⟩ = some (.bool (al.getD 0 ez).2.2.1) ∧ w'.cell? ⟨b5, o5 + 3, none⟩ = some (.string (al.getD 0 ez).2.2.2) ∧ w'.cell? ⟨BA, 0, none⟩ = some (.string key) ∧ w'.cell? ⟨BA, 1, none⟩ = some (.int .u64 seq) ∧ w'.cell? ⟨BA, 2, none⟩ = some (.bool false) ∧ w'.cell? ⟨BA, 3, none⟩ = some (.string ⟨#[]⟩)) := fun V hV => by
                    have h1 := HX7.out 0 V hkl hV
                    simp only [Nat.zero_mul, Nat.add_zero] at h1
                    obtain ⟨v0, v1, v2, v3⟩ := HA7.out V (keepB hV HBS.out.low)
                    exact ⟨h1.1, h1.2.1, h1.2.2.1, h1.2.2.2, v0, v1, v2, v3⟩
                  have e00 : ((0 : Nat) : Int) = 0 := rfl
                  rw [e00]
                  clear e00 HX7 hkl
                  have q9 : decide ((0 : Int) < 0) = false := decide_eq_false (by omega)
                  have q10 : (0 : Int) < (NP : Int) := by omega
                  clear q1
                  generalize al.getD 0 ez = x at *
                  obtain ⟨u0, u1, u2, u3, v0, v1, v2, v3⟩ := HP8.out wD (Below.refl _ _)
                  have hne9 : Nonempty (Und wD) := Und.non wD
                  have U0 := Und.cell u0
                  have U1 := Und.cell u1
                  have U2 := Und.cell u2
                  have U3 := Und.cell u3
                  have V0 := Und.cell v0
                  have V1 := Und.cell v1
                  have V2 := Und.cell v2
                  have V3 := Und.cell v3
                  go_wp2
                  refine wp_region_und (by kernel_rfl) (by kernel_rfl) ?_
                  repeat (go_big_quiet_step ((go_at_call 20; exact Und.call (HAHD.out _))))
                  refine wpQuiet_nil ?_
                  intro wA hb9
                  have HBS2 : Hid (Bst W7 wA BB key seq ins fb b) := HBS.out.below hb9
                  clear HBS HP8 HAHD hb9 hne9 U0 U1 U2 U3 V0 V1 V2 V3
                  go_wp2
                  go_roundw
                  case rel => exact ⟨0 + 1, by omega, by go_num, HBS2⟩
                  case measure => simp [intOf]; omega
                | succ p =>
                  have hpl : p < al.length := by omega
                  have hlt9 : ahB (al.getD p ez) (al.getD (p + 1) ez) = true := by
                    show decide _ = true
                    have h1 := List.pairwise_iff_getElem.1 HPI.out.sorted p (p + 1) hpl hkl (by omega)
                    have e1 : al.getD p ez = al[p] := by simp [hpl]
                    have e2 : al.getD (p + 1) ez = al[p + 1] := by simp [hkl]
                    rw [e1, e2]
                    simpa [ltE] using h1
                  have HAH2 : Hid (∀ W, Calls Try.prog 20 #[.agg #[.string (al.getD p ez).1, .int .u64 (al.getD p ez).2.1, .bool (al.getD p ez).2.2.1, .string (al.getD p ez).2.2.2], .agg #[.string (al.getD (p + 1) ez).1, .int .u64 (al.getD (p + 1) ez).2.1, .bool (al.getD (p + 1) ez).2.2.1, .string (al.getD (p + 1) ez).2.2.2]] W fun e w' => e = .returned (.bool true) ∧ Below W.heap.size W w') := fun W => by
                    have := ahead_law (al.getD p ez) (al.getD (p + 1) ez) W
                    rw [hlt9] at this
                    exact this
                  have HP8 : Hid (∀ w', Below wD.heap.size wD w' → w'.cell? ⟨b5, o5 + (p + 1) * 4, none⟩ = some (.string (al.getD (p + 1) ez).1) ∧ w'.cell? ⟨b5, o5 + (p + 1) * 4 + 1, none⟩ = some (.int .u64 (al.getD (p + 1) ez).2.1) ∧ w'.cell? ⟨b5, o5 + (p + 1) * 4 + 2, none⟩ = some (.bool (al.getD (p + 1) ez).2.2.1) ∧ w'.cell? ⟨b5, o5 + (p + 1) * 4 + 3, none⟩ = some (.string (al.getD (p + 1) ez).2.2.2) ∧ w'.cell? ⟨b5, o5 + p * 4, none⟩ = some (.string (al.getD p ez).1) ∧ w'.cell? ⟨b5, o5 + p * 4 + 1, none⟩ = some (.int .u64 (al.getD p ez).2.1) ∧ w'.cell? ⟨b5, o5 + p * 4 + 2, none⟩ = some (.bool (al.getD p ez).2.2.1) ∧ w'.cell? ⟨b5, o5 + p * 4 + 3, none⟩ = some (.string (al.getD p ez).2.2.2) ∧ w'.cell? ⟨BA, 0, none⟩ = some (.string key) ∧ w'.cell? ⟨BA, 1, none⟩ = some (.int .u64 seq) ∧ w'.cell? ⟨BA, 2, none⟩ = some (.bool false) ∧ w'.cell? ⟨BA, 3, none⟩ = some (.string ⟨#[]⟩)) := fun V hV => by
                    obtain ⟨u0, u1, u2, u3⟩ := HX7.out (p + 1) V hkl hV
                    obtain ⟨t0, t1, t2, t3⟩ := HX7.out p V hpl hV
                    obtain ⟨v0, v1, v2, v3⟩ := HA7.out V (keepB hV HBS.out.low)
                    exact ⟨u0, u1, u2, u3, t0, t1, t2, t3, v0, v1, v2, v3⟩
                  clear HX7 hkl hpl hlt9
                  generalize al.getD p ez = z at *
                  generalize al.getD (p + 1) ez = x at *
                  have q3 : (p : Int) + 1 ≤ 2932031007402 := by omega
                  have q6 : (0 : Int) ≤ (p : Int) := by omega
                  have q8 : (0 : Int) < (p : Int) + 1 := by omega
                  have q9 : decide ((0 : Int) < (p : Int) + 1) = true := decide_eq_true q8
                  have q10 : (0 : Int) ≤ (p : Int) + 1 := by omega
                  have q11 : (p : Int) + 1 - 1 = (p : Int) := by omega
                  have e11 : ((p + 1 : Nat) : Int) = (p : Int) + 1 := by omega
                  rw [e11] at q1 ⊢
                  clear e11
                  have q12 : IntKind.i64.wrap (p : Int) = (p : Int) := IntWalk.i64_in _ (by omega)
                  have q7 : IntKind.i64.wrap ((p : Int) + 1 - 1) = (p : Int) := by rw [IntWalk.i64_in _ (by omega)]; omega
                  have q4 : (p : Int) < (NP : Int) := by omega
                  go_wp2
                  go_region_held3 (fun w' => Below wD.heap.size wD w' ∧ w'.cell? ⟨b5, o5 + (p + 1) * 4, none⟩ = some (.string x.1) ∧ w'.cell? ⟨b5, o5 + (p + 1) * 4 + 1, none⟩ = some (.int .u64 x.2.1) ∧ w'.cell? ⟨b5, o5 + (p + 1) * 4 + 2, none⟩ = some (.bool x.2.2.1) ∧ w'.cell? ⟨b5, o5 + (p + 1) * 4 + 3, none⟩ = some (.string x.2.2.2) ∧ w'.cell? ⟨b5, o5 + p * 4, none⟩ = some (.string z.1) ∧ w'.cell? ⟨b5, o5 + p * 4 + 1, none⟩ = some (.int .u64 z.2.1) ∧ w'.cell? ⟨b5, o5 + p * 4 + 2, none⟩ = some (.bool z.2.2.1) ∧ w'.cell? ⟨b5, o5 + p * 4 + 3, none⟩ = some (.string z.2.2.2) ∧ w'.cell? ⟨BA, 0, none⟩ = some (.string key) ∧ w'.cell? ⟨BA, 1, none⟩ = some (.int .u64 seq) ∧ w'.cell? ⟨BA, 2, none⟩ = some (.bool false) ∧ w'.cell? ⟨BA, 3, none⟩ = some (.string ⟨#[]⟩)) (first | assumption | exact ⟨(Below.refl _ _).drew, HP8.out _ ((Below.refl _ _).drew)⟩ | exact keep8 HP8.out (by assumption) (by assumption))
                    (first
                      | (go_at_call_of 20 key; refine (HAHD.out _).mono ?_; rintro e wA ⟨rfl, hb9⟩)
                      | (go_at_call_of 20 z; refine (HAH2.out _).mono ?_; rintro e wA ⟨rfl, hb9⟩))
                  have HBS2 : Hid (Bst W7 wA BB key seq ins fb b) := by rename_i hz; exact HBS.out.below hz.1
                  clear HBS HP8 HAHD HAH2 q7 q12 q9 q11
                  go_wp2
                  go_roundw
                  case rel => exact ⟨p + 1 + 1, by omega, by go_num, HBS2⟩
                  case measure => simp [intOf]; omega
              · have HFB : Hid (Below w.heap.size w wD) := HB7.out.trans (HBS.out.low.mono HB7.out.size)
                obtain ⟨y0, y1, y2, y3⟩ := HE7.out wD HBS.out.low
                dsimp only at y0 y1 y2 y3
                cases fb with
                | true =>
                  obtain ⟨h1, h2, h3⟩ := HPI.out.found HBS.out.best
                  have h4 := HEV.out.symm.trans h2
                  obtain ⟨b0, b1, b2, b3⟩ := HBS.out.ent
                  subst h4
                  dsimp only at h3 b0 b1 b2 b3
                  subst h3
                  clear h1 h2
                  go_wp2
                  go_ret
                  exact ⟨rfl, HFB.out⟩
                | false =>
                  have h1 := HPI.out.lost HBS.out.best HP2.out
                  rw [HEV.out] at h1
                  dsimp only at h1
                  go_wp2
                  go_ret
                  exact ⟨rfl, HFB.out⟩
            
        
    
  · simp only [ez, Prod.mk.injEq] at hp2
    obtain ⟨rfl, rfl, rfl, rfl⟩ := hp2
    obtain ⟨y0, y1, y2, y3⟩ := HE7.out W7 (Below.refl _ _)
    dsimp only at y0 y1 y2 y3
    go_quiet (fail)
    have HB8 : Hid (Below W7.heap.size W7 (W7.drewN nq)) := below_drewN (Below.refl _ _) nq
    generalize W7.drewN nq = W8 at *
    clear y0 y1 y2 y3
    go_wp2
    go_loopw [16, 17] (fun n i wr => ∃ m : Nat, m ≤ NI ∧ i = .int .i64 (m : Int) ∧ n = .int .i64 ((cnt (fun y => !ahB y (atE key seq)) ins m : Nat) : Int) ∧ Hid (Below W7.heap.size W7 wr)) (fun _ i _ => NI - (intOf i).toNat)
    case atStart => exact ⟨0, Nat.zero_le _, rfl, rfl, HB8⟩
    case round =>
      clear HB8
      obtain ⟨m, hm, rfl, rfl, HBR⟩ := hrel
      rename World => wq
      by_cases hlm : m < NI
      · have hml : m < ins.length := by rw [HMI.out.2.2]; exact hlm
        obtain ⟨bi, oi, rfl, _, _⟩ := rd (HI7.out.below HBR.out) hml
        have HP8 : Hid (∀ w', Below wq.heap.size wq w' → w'.cell? ⟨bi, oi + m * 4, none⟩ = some (.string (ins.getD m ez).1) ∧ w'.cell? ⟨bi, oi + m * 4 + 1, none⟩ = some (.int .u64 (ins.getD m ez).2.1) ∧ w'.cell? ⟨bi, oi + m * 4 + 2, none⟩ = some (.bool (ins.getD m ez).2.2.1) ∧ w'.cell? ⟨bi, oi + m * 4 + 3, none⟩ = some (.string (ins.getD m ez).2.2.2) ∧ w'.cell? ⟨BA, 0, none⟩ = some (.string key) ∧ w'.cell? ⟨BA, 1, none⟩ = some (.int .u64 seq) ∧ w'.cell? ⟨BA, 2, none⟩ = some (.bool false) ∧ w'.cell? ⟨BA, 3, none⟩ = some (.string ⟨#[]⟩)) := fun V hV => by
          obtain ⟨b6, o6, e6, _, h6⟩ := rd (HI7.out.below (keepB hV HBR.out)) hml
          simp only [Option.some.injEq, Addr.mk.injEq] at e6
          obtain ⟨rfl, rfl, _⟩ := e6
          obtain ⟨v0, v1, v2, v3⟩ := HA7.out V (keepB hV HBR.out)
          exact ⟨h6.1, h6.2.1, h6.2.2.1, h6.2.2.2, v0, v1, v2, v3⟩
        have HAHD : Hid (∀ W, Calls Try.prog 20 #[.agg #[.string (ins.getD m ez).1, .int .u64 (ins.getD m ez).2.1, .bool (ins.getD m ez).2.2.1, .string (ins.getD m ez).2.2.2], .agg #[.string key, .int .u64 seq, .bool false, .string ⟨#[]⟩]] W fun e w' => e = .returned (.bool (ahB (ins.getD m ez) (atE key seq))) ∧ Below W.heap.size W w') := fun W => ahead_law (ins.getD m ez) (atE key seq) W
        have hst := cnt_step (p := fun y => !ahB y (atE key seq)) hml
        have hcl := cnt_le (fun y => !ahB y (atE key seq)) ins m
        have q2 : (m : Int) < (NI : Int) := by omega
        have hcB : ((cnt (fun y => !ahB y (atE key seq)) ins m : Nat) : Int) ≤ 2932031007402 := by omega
        have hc0 : 0 ≤ ((cnt (fun y => !ahB y (atE key seq)) ins m : Nat) : Int) := by omega
        generalize ins.getD m ez = y at *
        cases hab : ahB y (atE key seq) with
        | true =>
          rw [hab] at HAHD
          have HST : Hid (((cnt (fun y => !ahB y (atE key seq)) ins (m + 1) : Nat) : Int) = ((cnt (fun y => !ahB y (atE key seq)) ins m : Nat) : Int)) := by
            show ((cnt (fun y => !ahB y (atE key seq)) ins (m + 1) : Nat) : Int) = _
            rw [hst, hab]; simp
          clear hst hcl hab
          generalize ((cnt (fun y => !ahB y (atE key seq)) ins m : Nat) : Int) = cc at *
          go_wp2
          go_region_held3 (fun w' => Below wq.heap.size wq w' ∧ w'.cell? ⟨bi, oi + m * 4, none⟩ = some (.string y.1) ∧ w'.cell? ⟨bi, oi + m * 4 + 1, none⟩ = some (.int .u64 y.2.1) ∧ w'.cell? ⟨bi, oi + m * 4 + 2, none⟩ = some (.bool y.2.2.1) ∧ w'.cell? ⟨bi, oi + m * 4 + 3, none⟩ = some (.string y.2.2.2) ∧ w'.cell? ⟨BA, 0, none⟩ = some (.string key) ∧ w'.cell? ⟨BA, 1, none⟩ = some (.int .u64 seq) ∧ w'.cell? ⟨BA, 2, none⟩ = some (.bool false) ∧ w'.cell? ⟨BA, 3, none⟩ = some (.string ⟨#[]⟩)) (first | assumption | exact ⟨(Below.refl _ _).drew, HP8.out _ ((Below.refl _ _).drew)⟩ | exact keep8 HP8.out (by assumption) (by assumption))
            (first
              | (go_at_call 20; refine (HAHD.out _).mono ?_; rintro e wA ⟨rfl, hb9⟩))
          have HBR2 : Hid (Below W7.heap.size W7 wA) := by rename_i hz; exact keepB hz.1 HBR.out
          clear HBR HP8 HAHD
          go_wp2
          go_roundw
          case rel => exact ⟨m + 1, by omega, by go_num, by rw [HST.out], HBR2⟩
          case measure => simp [intOf]; omega
        | false =>
          rw [hab] at HAHD
          have HST : Hid (((cnt (fun y => !ahB y (atE key seq)) ins (m + 1) : Nat) : Int) = ((cnt (fun y => !ahB y (atE key seq)) ins m : Nat) : Int) + 1) := by
            show ((cnt (fun y => !ahB y (atE key seq)) ins (m + 1) : Nat) : Int) = _
            rw [hst, hab]; simp
          clear hst hcl hab
          generalize ((cnt (fun y => !ahB y (atE key seq)) ins m : Nat) : Int) = cc at *
          go_wp2
          go_region_held3 (fun w' => Below wq.heap.size wq w' ∧ w'.cell? ⟨bi, oi + m * 4, none⟩ = some (.string y.1) ∧ w'.cell? ⟨bi, oi + m * 4 + 1, none⟩ = some (.int .u64 y.2.1) ∧ w'.cell? ⟨bi, oi + m * 4 + 2, none⟩ = some (.bool y.2.2.1) ∧ w'.cell? ⟨bi, oi + m * 4 + 3, none⟩ = some (.string y.2.2.2) ∧ w'.cell? ⟨BA, 0, none⟩ = some (.string key) ∧ w'.cell? ⟨BA, 1, none⟩ = some (.int .u64 seq) ∧ w'.cell? ⟨BA, 2, none⟩ = some (.bool false) ∧ w'.cell? ⟨BA, 3, none⟩ = some (.string ⟨#[]⟩)) (first | assumption | exact ⟨(Below.refl _ _).drew, HP8.out _ ((Below.refl _ _).drew)⟩ | exact keep8 HP8.out (by assumption) (by assumption))
            (first
              | (go_at_call 20; refine (HAHD.out _).mono ?_; rintro e wA ⟨rfl, hb9⟩))
          have HBR2 : Hid (Below W7.heap.size W7 wA) := by rename_i hz; exact keepB hz.1 HBR.out
          clear HBR HP8 HAHD
          go_wp2
          go_roundw
          case rel => exact ⟨m + 1, by omega, by go_num, by rw [HST.out], HBR2⟩
          case measure => simp [intOf]; omega
      · obtain rfl : m = NI := by omega
        have hone : ((cnt (fun y => !ahB y (atE key seq)) ins m : Nat) : Int) = (NP : Int) := by
          have := HPI.out.count
          rw [HMI.out.2.2, HNP.out] at this
          rw [this]
        rw [hone]
        clear hone
        have hb9 : Below wq.heap.size wq (wq.alloc (.cells #[.string ⟨#[]⟩, .int .u64 0, .bool false, .string ⟨#[]⟩] 53)) := (Below.refl _ _).alloc (Nat.le_refl _) _
        have g9 : (wq.alloc (.cells #[.string ⟨#[]⟩, .int .u64 0, .bool false, .string ⟨#[]⟩] 53)).heap[wq.heap.size]? = some (.cells #[.string ⟨#[]⟩, .int .u64 0, .bool false, .string ⟨#[]⟩] 53) := World.alloc_heap_new _ _
        have HBS : Hid (Bst W7 (wq.alloc (.cells #[.string ⟨#[]⟩, .int .u64 0, .bool false, .string ⟨#[]⟩] 53)) wq.heap.size key seq (ins.take 0) false ez) := ⟨keepB hb9 HBR.out, HBR.out.size, (Array.getElem?_eq_some_iff.1 g9).1, ent_of_obj (e := ez) g9, fun j => froz_of_obj g9, by rw [List.take_zero]; exact Best.nil _ _ _⟩
        clear hb9 g9 HBR
        go_wp2_with fail
        generalize wq.alloc (.cells #[.string ⟨#[]⟩, .int .u64 0, .bool false, .string ⟨#[]⟩] 53) = W9 at *
        generalize wq.heap.size = BB at *
        go_wp2
        go_loopw [19, 20] (fun f i wr => ∃ (q : Nat) (fb : Bool) (b : En), q ≤ m ∧ i = .int .i64 (q : Int) ∧ f = .bool fb ∧ Hid (Bst W7 wr BB key seq (ins.take q) fb b)) (fun _ i _ => m - (intOf i).toNat)
        case atStart => exact ⟨0, false, ez, Nat.zero_le _, rfl, rfl, HBS⟩
        case round =>
          clear HBS
          obtain ⟨q, fb, b, hq, rfl, rfl, HBS⟩ := hrel
          rename World => wB
          by_cases hlq : q < m
          · have hql : q < ins.length := by rw [HMI.out.2.2]; exact hlq
            obtain ⟨bi, oi, rfl, _, y0, y1, y2, y3⟩ := rd (HI7.out.below HBS.out.low) hql
            have q2 : (q : Int) < (m : Int) := by omega
            have HTK : Hid (ins.take q ++ [ins.getD q ez] = ins.take (q + 1)) := by
              show ins.take q ++ [ins.getD q ez] = ins.take (q + 1)
              rw [List.take_succ_eq_append_getElem hql]
              simp [hql]
            have HY7 : Hid (∀ W, Below W7.heap.size W7 W → W.cell? ⟨bi, oi + q * 4, none⟩ = some (.string (ins.getD q ez).1) ∧ W.cell? ⟨bi, oi + q * 4 + 1, none⟩ = some (.int .u64 (ins.getD q ez).2.1) ∧ W.cell? ⟨bi, oi + q * 4 + 2, none⟩ = some (.bool (ins.getD q ez).2.2.1) ∧ W.cell? ⟨bi, oi + q * 4 + 3, none⟩ = some (.string (ins.getD q ez).2.2.2)) := fun W hW => by
              obtain ⟨b6, o6, e6, _, h6⟩ := rd (HI7.out.below hW) hql
              simp only [Option.some.injEq, Addr.mk.injEq] at e6
              obtain ⟨rfl, rfl, _⟩ := e6
              exact h6
            generalize ins.getD q ez = y at *
            obtain ⟨yk, ys, yd, yv⟩ := y
            dsimp only at y0 y1 y2 y3 HY7
            obtain ⟨b0, b1, b2, b3⟩ := HBS.out.ent
            have hlt := HBS.out.lt
            clear hql
            by_cases hkk : yk = key
            · subst hkk
              have h2' : (yk.toList == yk.toList) = true := by simp
              by_cases hle : ys ≤ seq
              · have hle2 : decide (ys ≤ seq) = true := decide_eq_true hle
                cases fb with
                | false =>
                  have HBT : Hid (Best yk seq (ins.take (q + 1)) true (yk, ys, yd, yv)) := by
                    rw [← HTK.out]; exact HBS.out.best.take _ (by simp [fitB, hle]) (.inl rfl)
                  go_wp2
                  go_quiet (fail)
                  have HBS2 := HBS.out.drew nq
                  have HBS3 : Hid (Bst W7 (wB.drewN nq) BB yk seq (ins.take q) false b) := HBS2
                  obtain ⟨z0, z1, z2, z3⟩ := HY7.out _ HBS2.low
                  obtain ⟨d0, d1, d2, d3⟩ := HBS2.ent
                  have fz := HBS2.fro
                  have hlt2 := HBS2.lt
                  clear HBS2 y0 y1 y2 y3 b0 b1 b2 b3 hlt HBS HY7
                  generalize wB.drewN nq = wC at *
                  go_wp2
                  go_roundw
                  case rel => exact ⟨q + 1, true, (yk, ys, yd, yv), by omega, by go_num, rfl, HBS3.out.set (yk, ys, yd, yv) HBT.out⟩
                  case measure => simp [intOf]; omega
                | true =>
                  by_cases hgt : b.2.1 < ys
                  · have hgt2 : decide (b.2.1 < ys) = true := decide_eq_true hgt
                    have HBT : Hid (Best yk seq (ins.take (q + 1)) true (yk, ys, yd, yv)) := by
                      rw [← HTK.out]; exact HBS.out.best.take _ (by simp [fitB, hle]) (.inr hgt)
                    go_wp2
                    go_quiet (fail)
                    have HBS2 := HBS.out.drew nq
                    have HBS3 : Hid (Bst W7 (wB.drewN nq) BB yk seq (ins.take q) true b) := HBS2
                    obtain ⟨z0, z1, z2, z3⟩ := HY7.out _ HBS2.low
                    obtain ⟨d0, d1, d2, d3⟩ := HBS2.ent
                    have fz := HBS2.fro
                    have hlt2 := HBS2.lt
                    clear HBS2 y0 y1 y2 y3 b0 b1 b2 b3 hlt HBS HY7
                    generalize wB.drewN nq = wC at *
                    go_wp2
                    go_roundw
                    case rel => exact ⟨q + 1, true, (yk, ys, yd, yv), by omega, by go_num, rfl, HBS3.out.set (yk, ys, yd, yv) HBT.out⟩
                    case measure => simp [intOf]; omega
                  · have hgt2 : decide (b.2.1 < ys) = false := decide_eq_false hgt
                    have HBT : Hid (Best yk seq (ins.take (q + 1)) true b) := by
                      rw [← HTK.out]; exact HBS.out.best.skip _ (.inr ⟨rfl, by show ys ≤ b.2.1; omega⟩)
                    clear hgt
                    go_wp2
                    go_quiet (fail)
                    go_wp2
                    go_roundw
                    case rel => exact ⟨q + 1, true, b, by omega, by go_num, rfl, (HBS.out.drew _).with HBT.out⟩
                    case measure => simp [intOf]; omega
              · have hle2 : decide (ys ≤ seq) = false := decide_eq_false hle
                have HBT : Hid (Best yk seq (ins.take (q + 1)) fb b) := by
                  rw [← HTK.out]; exact HBS.out.best.skip _ (.inl (by simp [fitB]; omega))
                clear hle
                go_wp2
                go_quiet (fail)
                go_wp2
                go_roundw
                case rel => exact ⟨q + 1, fb, b, by omega, by go_num, rfl, (HBS.out.drew _).with HBT.out⟩
                case measure => simp [intOf]; omega
            · have hs2 : (yk.toList == key.toList) = false := by
                rw [beq_eq_false_iff_ne]
                exact fun e => hkk (toList_inj e)
              have HBT : Hid (Best key seq (ins.take (q + 1)) fb b) := by
                rw [← HTK.out]; exact HBS.out.best.skip _ (.inl (by simp [fitB, hkk]))
              clear hkk
              go_wp2
              go_quiet (fail)
              go_wp2
              go_roundw
              case rel => exact ⟨q + 1, fb, b, by omega, by go_num, rfl, (HBS.out.drew _).with HBT.out⟩
              case measure => simp [intOf]; omega
          · obtain rfl : q = m := by omega
            have htk : ins.take q = ins := List.take_of_length_le (by rw [HMI.out.2.2]; exact Nat.le_refl _)
            rw [htk] at HBS
            clear htk
            go_wp2
            go_loopw [21] (fun i wr => ∃ k : Nat, k ≤ NP ∧ i = .int .i64 (k : Int) ∧ Hid (Bst W7 wr BB key seq ins fb b)) (fun i _ => NP - (intOf i).toNat)
            case atStart => exact ⟨0, Nat.zero_le _, rfl, HBS⟩
            case round =>
              clear HBS
              obtain ⟨k, hk, rfl, HBS⟩ := hrel
              rename World => wD
              by_cases hlk : k < NP
              · exfalso; omega
              · have HFB : Hid (Below w.heap.size w wD) := HB7.out.trans (HBS.out.low.mono HB7.out.size)
                obtain ⟨y0, y1, y2, y3⟩ := HE7.out wD HBS.out.low
                dsimp only at y0 y1 y2 y3
                cases fb with
                | true =>
                  exfalso
                  obtain ⟨h1, h2, h3⟩ := HPI.out.found HBS.out.best
                  rw [HNP.out] at h1
                  omega
                | false =>
                  go_wp2
                  go_ret
                  exact ⟨rfl, HFB.out⟩
            
        
    
end SkipSeek
end Go.Proofs.Ytfomnkkpiflokaa
