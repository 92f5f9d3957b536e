import Derived.Test.YtjnmklbhhlfhcaaGreatDoorQw1
import Derived.Test.YtjnmklbhhlfhcaaGreatDoorQw0
import Derived.Test.YtjnmklbhhlfhcaaGreatDoorOpT
import Derived.Test.YtjnmklbhhlfhcaaGreatDoorQr6
namespace Go.Proofs.YtjnmklbhhlfhcaaGreatDoor
namespace Qw
open Go.RowKit CMath Byt Laws Irw Crw Cod Qb
set_option linter.unusedVariables false
set_option linter.unusedSimpArgs false
set_option maxRecDepth 100000
/-- one of two -/
def two {α : Type} (x y : α) : Nat → α := fun i => if i = 0 then x else y
theorem lt_two {i : Nat} (h : i < 2) : i = 0 ∨ i = 1 := by omega
theorem goes_new {T : Nat → Nat} {w w' : World} (hb : Below w.heap.size w w') {g : Nat} (t : Nat) (hg : w.heap.size ≤ g) (hl : g < w'.heap.size) : Goes (fun _ => False) T w (Irw.upd T g t) w' :=
  ⟨hb.os, hb.tape, hb.output, hb.size, fun b h _ => hb.block b h, fun b h _ => upd_other _ _ (by omega), fun b h h0 => (upd_other _ _ (by omega)).trans h0⟩
theorem hi_upd {T : Nat → Nat} {w w' : World} (h : ∀ b, w.heap.size ≤ b → T b = 0) (hs : w.heap.size ≤ w'.heap.size) {g : Nat} (t : Nat) (hl : g < w'.heap.size) : ∀ b, w'.heap.size ≤ b → Irw.upd T g t b = 0 := fun b hb => (upd_other _ _ (by omega)).trans (h b (by omega))
theorem kept_new {T : Nat → Nat} {w w' : World} {K N : Nat} (h : BookB.Kept T w K N) (hb : Below w.heap.size w w') {g : Nat} (t : Nat) (hg : w.heap.size ≤ g) (hl : g < w'.heap.size) (ht : 9000000 ≤ t) : BookB.Kept (Irw.upd T g t) w' K N := h.goes (goes_new hb t hg hl) (fun x hx => hx.elim)
/-- Where the two begin. -/
theorem Tw.first {w W2 w3 w4 : World} {r0 r1 : Int} {u1 u2 u3 : TypeId} (hK : BookB.Kept (BookB.upd (fun _ => 0) w.heap.size 1) W2 w.heap.size 0) (hb2 : Below w.heap.size w W2) (hs2 : W2.heap.size = w.heap.size + 1)
    (h3 : MakerAt 9000010 (Irw.upd (BookB.upd (fun _ => 0) w.heap.size 1) W2.heap.size 9000010) w3 W2.heap.size r0 st0) (hb3 : Below W2.heap.size W2 w3) (hs3 : w3.heap.size = W2.heap.size + 1)
    (h4 : MakerAt 9000013 (Irw.upd (Irw.upd (BookB.upd (fun _ => 0) w.heap.size 1) W2.heap.size 9000010) w3.heap.size 9000013) w4 w3.heap.size r1 st0) (hb4 : Below w3.heap.size w3 w4) (hs4 : w4.heap.size = w3.heap.size + 1) :
    ∃ T, Tw w w.heap.size 0 w4.heap.size (w4.heap.size + 1) (w4.heap.size + 2) (two W2.heap.size w3.heap.size) (two r0 r1) (fun _ => []) (fun _ => []) (fun _ => (none, 0, 0)) (.slice none 0 0) [] [] T
      (((w4.alloc (.cells #[.pointer (some ⟨W2.heap.size, 0, none⟩), .pointer (some ⟨w3.heap.size, 0, none⟩)] u1)).alloc (.cells #[.int .i64 r0, .int .i64 r1] u2)).alloc (.cells #[.slice none 0 0, .slice none 0 0] u3)) := by
  obtain ⟨W7, hW7⟩ : ∃ W7, W7 = (((w4.alloc (.cells #[.pointer (some ⟨W2.heap.size, 0, none⟩), .pointer (some ⟨w3.heap.size, 0, none⟩)] u1)).alloc (.cells #[.int .i64 r0, .int .i64 r1] u2)).alloc (.cells #[.slice none 0 0, .slice none 0 0] u3)) := ⟨_, rfl⟩
  have hs7 : W7.heap.size = w4.heap.size + 3 := by rw [hW7]; simp
  have hb7 : Below w4.heap.size w4 W7 := by
    rw [hW7]
    exact (((Below.refl _ _).alloc (Nat.le_refl _) _).alloc (by simp) _).alloc (by simp; omega) _
  have c1 : ∀ j, W7.cell? ⟨w4.heap.size, j, none⟩ = (#[Value.pointer (some ⟨W2.heap.size, 0, none⟩), .pointer (some ⟨w3.heap.size, 0, none⟩)])[j]? := fun j => by
    rw [hW7, World.cell?_alloc_old _ _ _ (by simp; omega), World.cell?_alloc_old _ _ _ (by simp), World.cell?_alloc_at _ _ _ _ rfl]
  have c2 : ∀ j, W7.cell? ⟨w4.heap.size + 1, j, none⟩ = (#[Value.int .i64 r0, .int .i64 r1])[j]? := fun j => by
    rw [hW7, World.cell?_alloc_old _ _ _ (by simp), World.cell?_alloc_at _ _ _ _ (by simp)]
  have c3 : ∀ j, W7.cell? ⟨w4.heap.size + 2, j, none⟩ = (#[Value.slice none 0 0, .slice none 0 0])[j]? := fun j => by
    rw [hW7, World.cell?_alloc_at _ _ _ _ (by simp)]
  have f3 : ∀ j, W7.frozen? ⟨w4.heap.size + 2, j, none⟩ = false := fun j => by
    rw [hW7, World.frozen?_alloc_at _ _ _ _ (by simp)]
  rw [← hW7]
  clear hW7
  have k3 := kept_new hK hb3 9000010 (Nat.le_refl _) (by omega) (by omega)
  have k4 := kept_new k3 hb4 9000013 (Nat.le_refl _) (by omega) (by omega)
  have k7 := kept_new k4 hb7 (g := w4.heap.size + 2) 9000022 (by omega) (by omega) (by omega)
  have g4 := goes_new (T := Irw.upd (BookB.upd (fun _ => 0) w.heap.size 1) W2.heap.size 9000010) hb4 9000013 (Nat.le_refl _) (by omega)
  have g7 := goes_new (T := Irw.upd (Irw.upd (BookB.upd (fun _ => 0) w.heap.size 1) W2.heap.size 9000010) w3.heap.size 9000013) hb7 (g := w4.heap.size + 2) 9000022 (by omega) (by omega)
  have hT : ∀ b, b ≠ w.heap.size → b ≠ W2.heap.size → b ≠ w3.heap.size → b ≠ w4.heap.size + 2 → Irw.upd (Irw.upd (Irw.upd (BookB.upd (fun _ => 0) w.heap.size 1) W2.heap.size 9000010) w3.heap.size 9000013) (w4.heap.size + 2) 9000022 b = 0 := fun b h1 h2 h3 h4 => by
    rw [upd_other _ _ h4, upd_other _ _ h3, upd_other _ _ h2]
    exact BookB.upd_other _ _ h1
  refine ⟨_, k7, fun i hi => ?_, fun i hi => Erw.OwnE.empty _ _ _, by omega, by omega, by omega, hT _ (by omega) (by omega) (by omega) (by omega), hT _ (by omega) (by omega) (by omega) (by omega), upd_same _ _ _, fun i hi => ?_, fun i hi => ?_, fun i hi => ?_, f3, Seen.nil _ _, hb2.trans ((hb3.trans ((hb4.trans (hb7.mono hb4.size)).mono hb3.size)).mono hb2.size), fun b hb => hT b (by omega) (by omega) (by omega) (by omega)⟩
  · rcases lt_two hi with rfl | rfl
    · exact ((h3.goes g4 (fun z => z) (fun z => z) (fun z => z)).goes g7 (fun z => z) (fun z => z) (fun z => z))
    · exact h4.goes g7 (fun z => z) (fun z => z) (fun z => z)
  · rcases lt_two hi with rfl | rfl <;> exact c1 _
  · rcases lt_two hi with rfl | rfl <;> exact c2 _
  · rcases lt_two hi with rfl | rfl <;> exact c3 _
theorem keepS {wq : World} {S : World → Prop} (h : ∀ W, Below wq.heap.size wq W → Below wq.heap.size wq W ∧ S W) {W W' : World} (h1 : Below wq.heap.size wq W ∧ S W) (h2 : Below W.heap.size W W') : Below wq.heap.size wq W' ∧ S W' := h W' (h1.1.trans (h2.mono h1.1.size))
theorem drewB {w w8 : World} (hb : Below w.drew.heap.size w.drew w8) : Below w.heap.size w w8 := (Below.refl w.heap.size w).drew.trans hb
/-- One call of the script, in a box of its own. -/
structure OB (T : Nat → Nat) (W : World) (ob : Nat) (kd wv : Int) (e : En) : Prop where
  lt : ob < W.heap.size
  tg : T ob = 0
  c0 : W.cell? ⟨ob, 0, none⟩ = some (.int .i64 kd)
  c1 : W.cell? ⟨ob, 1, none⟩ = some (.int .i64 wv)
  c2 : W.cell? ⟨ob, 2, none⟩ = some (.string e.1)
  c3 : W.cell? ⟨ob, 3, none⟩ = some (.int .u64 e.2.1)
  c4 : W.cell? ⟨ob, 4, none⟩ = some (.bool e.2.2.1)
  c5 : W.cell? ⟨ob, 5, none⟩ = some (.string e.2.2.2)
theorem OB.goes {u : Nat → Prop} {T T' : Nat → Nat} {W W' : World} {ob : Nat} {kd wv : Int} {e : En} (h : OB T W ob kd wv e) (hg : Goes u T W T' W') (h0 : ¬ u 0) : OB T' W' ob kd wv e := by
  have eo : ¬ u (T ob) := by rw [h.tg]; exact h0
  exact ⟨Nat.lt_of_lt_of_le h.lt hg.size, (hg.tag _ h.lt eo).trans h.tg, (hg.cell h.lt eo).trans h.c0, (hg.cell h.lt eo).trans h.c1, (hg.cell h.lt eo).trans h.c2, (hg.cell h.lt eo).trans h.c3, (hg.cell h.lt eo).trans h.c4, (hg.cell h.lt eo).trans h.c5⟩
theorem OB.below {T : Nat → Nat} {W W' : World} {ob : Nat} {kd wv : Int} {e : En} (h : OB T W ob kd wv e) (hb : Below W.heap.size W W') : OB T W' ob kd wv e := h.goes (Goes.below (t := fun _ => False) hb) (fun z => z)
theorem OB.new {T : Nat → Nat} {W : World} {kd wv : Int} {e : En} {u : TypeId} (h : ∀ b, W.heap.size ≤ b → T b = 0) : OB T (W.alloc (.cells #[.int .i64 kd, .int .i64 wv, .string e.1, .int .u64 e.2.1, .bool e.2.2.1, .string e.2.2.2] u)) W.heap.size kd wv e := by
  have c : ∀ j, (W.alloc (.cells #[.int .i64 kd, .int .i64 wv, .string e.1, .int .u64 e.2.1, .bool e.2.2.1, .string e.2.2.2] u)).cell? ⟨W.heap.size, j, none⟩ = (#[Value.int .i64 kd, .int .i64 wv, .string e.1, .int .u64 e.2.1, .bool e.2.2.1, .string e.2.2.2])[j]? := fun j => by rw [World.cell?_alloc_at _ _ _ _ rfl]
  exact ⟨by simp, h _ (Nat.le_refl _), c 0, c 1, c 2, c 3, c 4, c 5⟩
theorem OB.tag {T T' : Nat → Nat} {W : World} {ob : Nat} {kd wv : Int} {e : En} (h : OB T W ob kd wv e) (ht : T' ob = T ob) : OB T' W ob kd wv e := ⟨h.lt, ht.trans h.tg, h.c0, h.c1, h.c2, h.c3, h.c4, h.c5⟩
theorem Tw.appO {w : World} {K N mb rb ib : Nat} {M : Nat → Nat} {r : Nat → Int} {A' A : Nat → List En} {v : Nat → Sv} {sv : Value} {xs : List (Nat × Sv)} {ys : List (Nat × List En)} {T T' : Nat → Nat} {W W' : World} {ob i : Nat} {kd wv : Int} {e : En} (hi : i < 2) {l : List En} {a5 : Option Addr} {n5 c5 : Nat} (h : Tw w K N mb rb ib M r A' A v sv xs ys T W) (hob : OB T W ob kd wv e) (ho : Erw.OwnE (9000020 + i) T' W' (.slice a5 n5 c5) l) (hg : Goes (· = 9000020 + i) T W T' W') :
    (Tw w K N mb rb ib M r A' (put A i l) (put v i (a5, n5, c5)) sv xs ys T' (W'.setCell ⟨ib, i, none⟩ (.slice a5 n5 c5)) ∧ OB T' (W'.setCell ⟨ib, i, none⟩ (.slice a5 n5 c5)) ob kd wv e) ∧ (∃ v0, W'.cell? ⟨ib, i, none⟩ = some v0) ∧ W'.frozen? ⟨ib, i, none⟩ = false := by
  have ei : ¬ (T ib = 9000020 + i) := by rw [h.it]; omega
  have hT : T' ib = 9000022 := (hg.tag ib h.il ei).trans h.it
  exact ⟨⟨h.app hi (s := (a5, n5, c5)) ho hg, (hob.goes hg (by omega)).goes (Goes.setCell (t := (· = 9000022)) hT) (by omega)⟩, ⟨_, (hg.cell h.il ei).trans (h.bx i hi)⟩, (World.frozen?_of_block (a := ⟨ib, i, none⟩) (hg.block ib h.il ei)).trans (h.fz i)⟩
/-- An empty list of one's own. -/
theorem ownE_lit (w : World) : Erw.OwnE 1 (Irw.upd (fun _ => 0) w.heap.size 1) (w.alloc (.cells #[] 54)) (.slice (some ⟨w.heap.size, 0, none⟩) 0 0) [] :=
  ⟨World.ownsRow_lit w #[] 0 (Nat.zero_le _) (by simp [maxLen]) (by simp), fun g hg => by cases hg; exact upd_same _ _ _⟩
/-- A copy is new memory. -/
theorem copy_e {w w9 : World} {T9 : Nat → Nat} {a : Option Addr} {n c : Nat} {l : List En} (ho : Erw.OwnE 1 T9 w9 (.slice a n c) l) (hg : Goes (· = 1) (Irw.upd (fun _ => 0) w.heap.size 1) (w.alloc (.cells #[] 54)) T9 w9) :
    Erw.IsE w9 a l ∧ n = l.length ∧ (∀ b off, a = some ⟨b, off, none⟩ → w.heap.size ≤ b) ∧ Below w.heap.size w w9 := by
  have hs : (w.alloc (.cells #[] 54)).heap.size = w.heap.size + 1 := by simp
  have h0 : ∀ b, b < w.heap.size → Irw.upd (fun _ => 0) w.heap.size 1 b = 0 := fun b hb => upd_other _ _ (by omega)
  have hb0 : Below w.heap.size w (w.alloc (.cells #[] 54)) := (Below.refl _ _).alloc (Nat.le_refl _) _
  refine ⟨ho.isE.1, ho.isE.2.1, fun b off e => ?_, hb0.trans ⟨hg.os, hg.tape, hg.output, hg.size, fun b hb => hg.block b (by omega) (by rw [h0 b hb]; omega)⟩⟩
  by_cases hb : w.heap.size ≤ b
  · exact hb
  · subst e
    have h1 := ho.2 b rfl
    have h2 := hg.tag b (by omega) (by rw [h0 b (by omega)]; omega)
    rw [h0 b (by omega)] at h2
    omega
/-- The block of entries. -/
def bk (r : Int) (l : List En) : List Nat := blk (pushes (Rn r) st0 l)
theorem sizes {l : List En} (hf : Fit l) (hn : l.length ≤ 200) (R : Nat) : (pushes R st0 l).b.length ≤ 140000 ∧ (pushes R st0 l).p.length ≤ 800 ∧ (pushes R st0 l).n = l.length := by
  have h1 := pushes_len R l hf.ok
  have h2 := pushes_plen R l st0
  have h3 := pushes_n R l st0
  have z1 : st0.p.length = 0 := rfl
  have z2 : st0.n = 0 := rfl
  exact ⟨by omega, by omega, by omega⟩
theorem bk_len {l : List En} (hf : Fit l) (hn : l.length ≤ 200) (r : Int) : 0 < (bk r l).length ∧ (bk r l).length ≤ 1000000 := by
  have := sizes hf hn (Rn r)
  unfold bk
  rw [blk_len]
  omega
theorem fit_snoc {l : List En} {e : En} (hf : Fit l) (ha : adds (lastE ⟨#[]⟩ l) e = 0) (h0 : 0 ≤ e.2.1) : Fit (l ++ [e]) := by
  refine ⟨chain_snoc hf.1 ha, fun x hx => ?_⟩
  rcases List.mem_append.1 hx with hx | hx
  · exact hf.2 x hx
  · rw [List.mem_singleton.1 hx]; exact h0
theorem lastK_E' (l : List En) : lastK l = lastE ⟨#[]⟩ l := by
  rcases List.eq_nil_or_concat l with rfl | ⟨l', e, rfl⟩
  · rfl
  · rw [List.concat_eq_append, lastK_snoc, lastE_snoc]
section
variable {w : World} {K N mb rb ib : Nat} {M : Nat → Nat} {r : Nat → Int} {A : Nat → List En} {v : Nat → Sv} {sv : Value} {xs : List (Nat × Sv)} {ys : List (Nat × List En)} {T : Nat → Nat} {W : World} {i : Nat} {va : Option Addr} {vn vc : Nat}
theorem Tw.cSmall (hi : i < 2) (hv : v i = (va, vn, vc)) (h : Tw w K N mb rb ib M r A A v sv xs ys T W) (hf : Fit (A i)) (hn : (A i).length ≤ 200) :
    Calls Tryz.prog 5 #[.slice va vn vc] W fun e w' => Qg.SmIs W (A i) e w' := by
  have h1 := h.isE hi
  rw [hv] at h1
  dsimp only at h1
  refine Qg.small_any W va vc vn (A i) h1.2.1.symm (by have := h1.2.1; omega) h1.1 fun e he => ?_
  have h2 := (hf.ok e he).1
  have h3 := h2.k2
  refine ⟨by unfold maxLen; omega, ?_⟩
  cases hd : e.2.2.1 with
  | false => have := h2.v hd; unfold maxLen; omega
  | true => have := h2.d hd; unfold maxLen; omega
theorem Tw.cAdds (hi : i < 2) (hv : v i = (va, vn, vc)) (h : Tw w K N mb rb ib M r A A v sv xs ys T W) (hn : (A i).length ≤ 200) (k : ByteArray) (s : Int) (d : Bool) (x : ByteArray) (hk : k.size ≤ 9223372036854775807) (hx : x.size ≤ 9223372036854775807) :
    Calls Tryz.prog 6 #[.slice va vn vc, .agg #[.string k, .int .u64 s, .bool d, .string x]] W fun e w' => e = .returned (.int .i64 (adds (lastE ⟨#[]⟩ (A i)) (k, s, d, x))) ∧ Below W.heap.size W w' := by
  have h1 := h.isE hi
  rw [hv] at h1
  dsimp only at h1
  have hl := h.last hi
  have := refAdds_all va vc vn (A i) k s d x W h1.1 h1.2.1 (by have := h1.2.1; omega) hk hx (by rw [lastK_E']; omega)
  rw [lastK_E'] at this
  exact this
theorem Tw.cAdd (hi : i < 2) (h : Tw w K N mb rb ib M r A A v sv xs ys T W) (hf : Fit (A i)) (hn : (A i).length ≤ 200) (hr : -9223372036854775808 ≤ r i ∧ r i ≤ 9223372036854775807) (k : ByteArray) (s : Nat) (d : Bool) (x : ByteArray) (hk : k.size ≤ 9223372036854775807) (hx : x.size ≤ 9223372036854775807) :
    Calls Tryz.prog 8 #[.pointer (some ⟨M i, 0, none⟩), .agg #[.string k, .int .u64 (s : Int), .bool d, .string x]] W fun e w' => e = .returned (.int .i64 (adds (lastE ⟨#[]⟩ (A i)) (k, (s : Int), d, x))) ∧ ∃ T', Tw w K N mb rb ib M r (put A i (if adds (lastE ⟨#[]⟩ (A i)) (k, (s : Int), d, x) = 0 then A i ++ [(k, (s : Int), d, x)] else A i)) A v sv xs ys T' w' ∧ Goes (Mk (9000010 + 3 * i)) T W T' w' := by
  have h1 := sizes hf hn (Rn (r i))
  have hls : (pushes (Rn (r i)) st0 (A i)).last = lastE ⟨#[]⟩ (A i) := pushes_lastE _ _ _
  refine (add_all (9000010 + 3 * i) T W (M i) (r i) _ k s d x (h.ma i hi) h.kept.2 (by omega) hk hx (by omega) (by omega) (by omega) hr).mono ?_
  rintro e w' ⟨T', he, hm, hg⟩
  rw [hls] at he hm
  refine ⟨he, T', h.add hi ?_ hg, hg⟩
  split
  · rename_i h0
    rw [if_pos h0] at hm
    rw [pushes_snoc]
    exact hm
  · rename_i h0
    rw [if_neg h0] at hm
    exact hm
theorem Tw.cSize (hi : i < 2) (h : Tw w K N mb rb ib M r A A v sv xs ys T W) (hf : Fit (A i)) (hn : (A i).length ≤ 200) :
    Calls Tryz.prog 9 #[.pointer (some ⟨M i, 0, none⟩)] W fun e w' => e = .returned (.int .i64 (((bk (r i) (A i)).length : Nat) : Int)) ∧ Below W.heap.size W w' := by
  have h1 := sizes hf hn (Rn (r i))
  refine (size_any (9000010 + 3 * i) T W (M i) (r i) _ (h.ma i hi) (by omega) (by omega)).mono ?_
  rintro e w' ⟨h2, n, h3⟩
  exact ⟨by unfold bk; rw [blk_len]; exact h2, by rw [h3]; exact below_drewN (Below.refl _ _) _⟩
theorem Tw.cBytes (hi : i < 2) (ht : Tab w) (h : Tw w K N mb rb ib M r A A v sv xs ys T W) (hf : Fit (A i)) (hn : (A i).length ≤ 200) :
    Calls Tryz.prog 11 #[.pointer (some ⟨M i, 0, none⟩)] W fun e w' => ∃ vb, e = .returned vb ∧ Byt.Own 5 W.heap.size w' vb (bk (r i) (A i)) ∧ Below W.heap.size W w' := by
  have h1 := sizes hf hn (Rn (r i))
  exact bytes_any (9000010 + 3 * i) T W (M i) (r i) _ (h.ma i hi) (ht.below h.bl ht.lt) (by omega) (by omega)
theorem Tw.cRef (hi : i < 2) (hv : v i = (va, vn, vc)) (h : Tw w K N mb rb ib M r A A v sv xs ys T W) (hf : Fit (A i)) (hn : (A i).length ≤ 200) (hr : -9223372036854775808 ≤ r i ∧ r i ≤ 9223372036854775807) :
    Calls Tryz.prog 10 #[.slice va vn vc, .int .i64 (r i)] W fun e w' => ∃ g c, e = .returned (.slice (some ⟨g, 0, none⟩) (bk (r i) (A i)).length c) ∧ IsB w' (some ⟨g, 0, none⟩) (bk (r i) (A i)) ∧ Below W.heap.size W w' := by
  have h1 := h.isE hi
  rw [hv] at h1
  dsimp only at h1
  refine (refBytes_any va vc vn (A i) W (r i) h1.1 h1.2.1 (by have := h1.2.1; omega) hf.ok hr).mono ?_
  rintro e w' ⟨vb, rfl, ho, hb⟩
  obtain ⟨g, c, rfl, _, _, _, hiB⟩ := ho.isB
  exact ⟨g, c, rfl, hiB, hb⟩
/-- A block that was opened lies in blocks of tag 0. -/
theorem blk0_of {T : Nat → Nat} {w w1 : World} {M : Nat} {S : St} (hi : ∀ b, w.heap.size ≤ b → T b = 0) (hk : BlkF w.heap.size w1 M 3 S.b S.p) : Blk0 T w1 M S := by
  have h9 : ∀ b, w.heap.size ≤ b → ¬ T b ≠ 0 := fun b hb h => h (hi b hb)
  obtain ⟨a1, c1, e1, e2, e3, e4, e5⟩ := hk.ent
  obtain ⟨a2, c2, f1, f2, f3, f4, f5⟩ := hk.pla
  exact ⟨hk.lt, h9 _ (Nat.le_of_not_lt hk.tag), ⟨a1, c1, e1, e2, e3, e4, fun b off e hne => h9 _ (Nat.le_of_not_lt (e5 b off e hne))⟩, ⟨a2, c2, f1, f2, f3, f4, fun b off e hne => h9 _ (Nat.le_of_not_lt (f5 b off e hne))⟩⟩
theorem Tw.cOpen (hi : i < 2) (ht : Tab w) (h : Tw w K N mb rb ib M r A A v sv xs ys T W) (hf : Fit (A i)) (hn : (A i).length ≤ 200) {a : Option Addr} {c n : Nat} (ha : BookB.Live 1 T W a c (bk (r i) (A i))) (hl : n = (bk (r i) (A i)).length) (hc : c ≤ 9223372036854775807) :
    Calls Tryz.prog 13 #[.slice a n c] W fun e w' => ∃ B, e = .returned (.tuple #[.pointer (some ⟨B, 3, none⟩), .int .i64 0]) ∧ Blk0 T w' B (pushes (Rn (r i)) st0 (A i)) ∧ Below W.heap.size W w' := by
  have h0 : a = none → c = 0 := fun e => by obtain ⟨g, e2, _⟩ := ha.at_; rw [e] at e2; cases e2
  refine (open_made a c n (Rn (r i)) (A i) W (Rn_pos _) hf.1 hf.2 (by omega) (ht.below h.bl ht.lt) ha.isB hl (by have := ha.le; omega) hc h0).mono ?_
  rintro e w' ⟨B, he, hk, hb⟩
  exact ⟨B, he, blk0_of h.kept.2 hk, hb⟩
theorem cGiven {T : Nat → Nat} {W : World} {B R : Nat} {l : List En} (hf : Fit l) (hn : l.length ≤ 200) (hk : Blk0 T W B (pushes R st0 l)) :
    Calls Tryz.prog 15 #[.pointer (some ⟨B, 3, none⟩), .int .i64 (-1)] W fun e w' => GvIs W l e w' := given_made W B 3 R l hf.1 hf.2 (by omega) hk.z
end
end Qw
end Go.Proofs.YtjnmklbhhlfhcaaGreatDoor
