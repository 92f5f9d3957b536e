import Derived.Test.YtfomnkkpiflokaaRf4
import Derived.Test.YtfomnkkpiflokaaTk5
import Derived.Test.YtfomnkkpiflokaaSt1
import Derived.Deep.DeepCutAuto
namespace Go.Proofs.Ytfomnkkpiflokaa
namespace Sk
open Go.RowKit Laws Irw Erw KMath Skm Byt
set_option linter.unusedVariables false
set_option maxRecDepth 100000
set_option linter.unusedSimpArgs false

def esN (ns : List Nd) : List En := ns.map Nd.e
def hsN (ns : List Nd) : List Int := ns.map fun n => (n.h : Int)
theorem esN_len (ns : List Nd) : (esN ns).length = ns.length := by simp [esN]
theorem hsN_len (ns : List Nd) : (hsN ns).length = ns.length := by simp [hsN]
theorem drop_from (k : ByteArray) (s : Int) (ns : List Nd) : (esN ns).drop (plc k s (esN ns)) = (ns.dropWhile (aheadB k s)).map Nd.e := by
  rw [plc_drop]
  unfold esN
  rw [List.dropWhile_map]
  rfl
/-- Seek's answers are alike -/
theorem seek_same (k : ByteArray) (s : Int) (ns : List Nd) : refSeekV (esN ns) (plc k s (esN ns)) = seekV (ns.dropWhile (aheadB k s)) := by
  have h := drop_from k s ns
  have hl := plc_le k s (esN ns)
  cases hd : ns.dropWhile (aheadB k s) with
  | nil =>
    rw [hd, List.map_nil, List.drop_eq_nil_iff] at h
    unfold refSeekV
    rw [if_neg (by omega)]
    rfl
  | cons n r =>
    rw [hd, List.map_cons] at h
    have h1 : plc k s (esN ns) < (esN ns).length := by
      rcases Nat.lt_or_ge (plc k s (esN ns)) (esN ns).length with h2 | h2
      · exact h2
      · rw [List.drop_eq_nil_of_le h2] at h; cases h
    have h2 : (esN ns).getD (plc k s (esN ns)) ez = n.e := by
      rw [List.drop_eq_getElem_cons h1] at h
      simp only [List.cons.injEq] at h
      simp [h1, h.1]
    unfold refSeekV
    rw [if_pos h1, h2]
    rfl
theorem takeW_append {α : Type} {p : α → Bool} : ∀ {a b : List α}, (∀ x ∈ a, p x = true) → (∀ x ∈ b, p x = false) → (a ++ b).takeWhile p = a
  | [], b, _, hb => by
    cases b with
    | nil => rfl
    | cons x r => rw [List.nil_append, List.takeWhile_cons, if_neg (by rw [hb x (by simp)]; exact Bool.false_ne_true)]
  | x :: a, b, ha, hb => by
    rw [List.cons_append, List.takeWhile_cons, if_pos (ha x (by simp)), takeW_append (fun y hy => ha y (by simp [hy])) hb]
theorem cmpE_eq_right {a : ByteArray} {m : Int} {x y : En} (h : cmpE x.1 y.1 x.2.1 y.2.1 = 0) : cmpE a x.1 m x.2.1 = cmpE a y.1 m y.2.1 := by
  obtain ⟨h1, h2⟩ := (cmpE_zero_iff _ _ _ _).1 h
  rw [toList_inj h1, h2]
theorem plc_at {ns pre post : List Nd} {x : En} (hcut : ns = pre ++ post) (h1 : ∀ n ∈ pre, ahB n.e x = true) (h2 : ∀ n ∈ post, ahB n.e x = false) : plc x.1 x.2.1 (esN ns) = pre.length := by
  unfold plc esN
  rw [hcut, List.map_append, takeW_append]
  · simp
  · intro y hy
    obtain ⟨n, hn, rfl⟩ := List.mem_map.1 hy
    exact h1 n hn
  · intro y hy
    obtain ⟨n, hn, rfl⟩ := List.mem_map.1 hy
    exact h2 n hn
theorem ahB_of_lt {a b : En} (h : ltE a b) : ahB a b = true := decide_eq_true h
theorem ahB_not {a b : En} (h : ltE b a) : ahB a b = false := decide_eq_false (ltE_asym _ _ h)
/-- both Puts do the same -/
theorem put_same {ds : List Nat} {ns ns' : List Nd} {x : En} {ok : Bool} (hs : ns.Pairwise (fun a b => ltE a.e b.e)) (hs' : ns'.Pairwise (fun a b => ltE a.e b.e)) (hp : PutIs ds ns x ns' ok) :
    (ok = false ∧ Dup (esN ns) x ∧ esN ns' = esN ns ∧ hsN ns' = hsN ns) ∨ (ok = true ∧ ¬ Dup (esN ns) x ∧ esN ns' = insP (esN ns) (plc x.1 x.2.1 (esN ns)) x ∧ hsN ns' = insP (hsN ns) (plc x.1 x.2.1 (esN ns)) (hgt ds (esN ns).length : Int)) := by
  rcases hp with ⟨rfl, rfl, nd, h1, h2⟩ | ⟨rfl, h1, pre, post, b, h2, h3⟩
  · left
    refine ⟨rfl, ?_, rfl, rfl⟩
    obtain ⟨pre, post, hcut⟩ := List.append_of_mem h1
    have hs2 := hs
    rw [hcut, List.pairwise_append] at hs2
    have hM : plc x.1 x.2.1 (esN ns') = pre.length := by
      refine plc_at hcut (fun n hn => ?_) (fun n hn => ?_)
      · have := hs2.2.2 n hn nd (by simp)
        unfold ltE at this
        rw [cmpE_eq_right h2] at this
        exact decide_eq_true this
      · rcases List.mem_cons.1 hn with rfl | hn
        · exact decide_eq_false (by rw [h2]; omega)
        · have h4 := (List.pairwise_cons.1 hs2.2.1).1 n hn
          have h5 := ltE_asym _ _ h4
          unfold ltE at h5
          rw [cmpE_eq_right h2] at h5
          exact decide_eq_false h5
    have hlt : pre.length < (esN ns').length := by rw [esN_len, hcut]; simp
    have hget : (esN ns').getD pre.length ez = nd.e := by
      unfold esN
      rw [hcut, List.map_append, List.map_cons]
      simp
    obtain ⟨q1, q2⟩ := (cmpE_zero_iff _ _ _ _).1 h2
    exact ⟨by rw [hM]; exact hlt, by rw [hM, hget]; exact toList_inj q1, by rw [hM, hget]; exact q2⟩
  · right
    rw [h3, List.pairwise_append] at hs'
    have hM : plc x.1 x.2.1 (esN ns) = pre.length := plc_at h2 (fun n hn => ahB_of_lt (hs'.2.2 n hn ⟨b, x, hgt ds ns.length⟩ (List.mem_cons_self ..))) (fun n hn => ahB_not ((List.pairwise_cons.1 hs'.2.1).1 n hn))
    refine ⟨rfl, ?_, ?_, ?_⟩
    · rintro ⟨d1, d2, d3⟩
      have d1' : plc x.1 x.2.1 (esN ns) < ns.length := by rw [esN_len] at d1; exact d1
      have hg : (esN ns).getD (plc x.1 x.2.1 (esN ns)) ez = ns[plc x.1 x.2.1 (esN ns)].e := by
        unfold esN at d1' ⊢
        simp [d1']
      refine h1 _ (List.getElem_mem d1') ?_
      rw [← hg, d2, d3]
      exact (cmpE_zero_iff _ _ _ _).2 ⟨rfl, rfl⟩
    · rw [hM, h3]
      unfold insP esN
      rw [h2]
      simp
    · rw [hM, h3, esN_len]
      unfold insP hsN
      rw [h2]
      simp

/-- the two lists of a pair -/
structure Pr (t u : Nat) (T : Nat → Nat) (w : World) (L R : Nat) (ds : List Nat) (ns : List Nd) (bs : List Nat) : Prop where
  sl : Sl t T w L ds ns
  rl : Rl w R ds (esN ns) (hsN ns) bs
  tR : T R = u
  tb : ∀ b ∈ bs, T b = u
theorem Rl.same {w w' : World} {R : Nat} {ds : List Nat} {es : List En} {hs : List Int} {bs : List Nat} (h : Rl w R ds es hs bs) (hsz : w.heap.size ≤ w'.heap.size) (hR : w'.heap[R]? = w.heap[R]?) (hblk : ∀ b ∈ bs, w'.heap[b]? = w.heap[b]?) : Rl w' R ds es hs bs := by
  have hc : ∀ j, w'.cell? ⟨R, j, none⟩ = w.cell? ⟨R, j, none⟩ := fun j => World.cell?_of_block hR
  obtain ⟨a, c, e1, e2, e3, e4, e6, e5⟩ := h.ent
  obtain ⟨a2, c2, f1, f2, f3, f4, f6, f5⟩ := h.hig
  obtain ⟨a3, c3, g1, g2, g3⟩ := h.dra
  refine ⟨Nat.lt_of_lt_of_le h.lt hsz, ⟨a, c, by rw [hc]; exact e1, fun hne => ?_, e3, e4, e6, e5⟩, ⟨a2, c2, by rw [hc]; exact f1, fun hne => ?_, f3, f4, f6, f5⟩, ⟨a3, c3, by rw [hc]; exact g1, ⟨fun hne => ?_, g2.2⟩, g3⟩, by rw [hc]; exact h.use, fun j => by rw [← h.fro j]; exact World.frozen?_of_block hR, h.len, fun b hm => ⟨Nat.lt_of_lt_of_le (h.low b hm).1 hsz, (h.low b hm).2⟩⟩
  · obtain ⟨b, off, rfl, hr⟩ := e2 hne
    obtain ⟨g, hg, eg⟩ := e5 _ rfl
    simp only [Addr.mk.injEq] at eg
    exact ⟨b, off, rfl, hr.keep (hblk b (by rw [eg.1]; exact hg)) hsz⟩
  · obtain ⟨b, off, rfl, hr⟩ := f2 hne
    obtain ⟨g, hg, eg⟩ := f5 _ rfl
    simp only [Addr.mk.injEq] at eg
    exact ⟨b, off, rfl, hr.keep (hblk b (by rw [eg.1]; exact hg)) hsz⟩
  · obtain ⟨b, off, rfl, hr⟩ := g2.1 hne
    exact ⟨b, off, rfl, hr.keep (hblk b (g3 _ rfl)) hsz⟩
theorem Pr.goes {t u : Nat} {v : Nat → Prop} {T T' : Nat → Nat} {w w' : World} {L R : Nat} {ds : List Nat} {ns : List Nd} {bs : List Nat} (h : Pr t u T w L R ds ns bs) (hg : Goes v T w T' w') (h1 : ¬ v t) (h2 : ¬ v (t + 1)) (h3 : ¬ v u) : Pr t u T' w' L R ds ns bs :=
  ⟨h.sl.goes hg h1 h2, h.rl.same hg.size (hg.block _ h.rl.lt (by rw [h.tR]; exact h3)) (fun b hb => hg.block _ (h.rl.low b hb).1 (by rw [h.tb b hb]; exact h3)), (hg.tag _ h.rl.lt (by rw [h.tR]; exact h3)).trans h.tR, fun b hb => (hg.tag _ (h.rl.low b hb).1 (by rw [h.tb b hb]; exact h3)).trans (h.tb b hb)⟩
theorem Pr.below {t u : Nat} {T : Nat → Nat} {w w' : World} {L R : Nat} {ds : List Nat} {ns : List Nd} {bs : List Nat} (h : Pr t u T w L R ds ns bs) (hb : Below w.heap.size w w') : Pr t u T w' L R ds ns bs := h.goes (Goes.below (t := fun _ => False) hb) (fun z => z) (fun z => z) (fun z => z)
end Sk
end Go.Proofs.Ytfomnkkpiflokaa
namespace Go.Proofs.Ytfomnkkpiflokaa
namespace Sk
open Go.RowKit Laws Irw Erw KMath Skm Byt
set_option linter.unusedVariables false
set_option maxRecDepth 100000
set_option linter.unusedSimpArgs false

theorem HID5 {p : Prop} (h : p) : Hid p := h
theorem take_of_slice {l : List En} {n : Int} (h0 : 0 ≤ n) (h1 : n < (l.length : Int)) : tkn n l = l.take n.toNat ∧ (tkn n l).length = n.toNat := by
  have e : tkn n l = l.take n.toNat := by unfold tkn; rw [if_neg (by omega)]
  exact ⟨e, by rw [e, List.length_take]; omega⟩
set_option maxHeartbeats 4000000 in
theorem walks_any (t u : Nat) (T : Nat → Nat) (w : World) (L R : Nat) (ds : List Nat) (ns : List Nd) (bs : List Nat) (h : Pr t u T w L R ds ns bs) (hlen : ns.length ≤ 2932031007402) (kind : Int) (sec : Bool) (x : En) (nn : Int) :
    Calls Try.prog 42 #[.agg #[.pointer (some ⟨L, 0, none⟩), .pointer (some ⟨R, 0, none⟩)], .agg #[.int .i64 kind, .bool sec, .string x.1, .int .u64 x.2.1, .bool x.2.2.1, .string x.2.2.2, .int .i64 nn]] w fun e w' => e = .returned (.bool true) ∧ Below w.heap.size w w' := by
  obtain ⟨xk, xs, xd, xv⟩ := x
  dsimp only
  have HP : Hid (Pr t u T w L R ds ns bs) := h
  obtain ⟨N, hN⟩ : ∃ N, ns.length = N := ⟨_, rfl⟩
  have HN : Hid (ns.length = N) := hN
  rw [hN] at hlen
  obtain ⟨al, hal⟩ : ∃ al, (esN ns).drop (plc xk xs (esN ns)) = al := ⟨_, rfl⟩
  obtain ⟨K, hK⟩ : ∃ K, al.length = K := ⟨_, rfl⟩
  have HAL : Hid ((esN ns).drop (plc xk xs (esN ns)) = al ∧ al.length = K ∧ (esN ns).length - plc xk xs (esN ns) = K ∧ (ns.dropWhile (aheadB xk xs)).map Nd.e = al) := ⟨hal, hK, by rw [← hK, ← hal, List.length_drop], by rw [← hal]; exact (drop_from xk xs ns).symm⟩
  have hKN : (K : Int) ≤ 2932031007402 := by
    have h1 : K ≤ (esN ns).length := by rw [← hK, ← hal, List.length_drop]; omega
    rw [esN_len, hN] at h1
    omega
  have hb1 : Below w.heap.size w ((w.alloc (.cells #[.pointer (some ⟨L, 0, none⟩), .pointer (some ⟨R, 0, none⟩)] 48)).alloc (.cells #[.int .i64 kind, .bool sec, .string xk, .int .u64 xs, .bool xd, .string xv, .int .i64 nn] 55)) := ((Below.refl _ _).alloc (Nat.le_refl _) _).alloc (by simp) _
  have g1 : ((w.alloc (.cells #[.pointer (some ⟨L, 0, none⟩), .pointer (some ⟨R, 0, none⟩)] 48)).alloc (.cells #[.int .i64 kind, .bool sec, .string xk, .int .u64 xs, .bool xd, .string xv, .int .i64 nn] 55)).heap[w.heap.size]? = some (.cells #[.pointer (some ⟨L, 0, none⟩), .pointer (some ⟨R, 0, none⟩)] 48) := by
    rw [Below.heap_alloc _ _ _ (by simp)]; exact World.alloc_heap_new _ _
  have g2 : ((w.alloc (.cells #[.pointer (some ⟨L, 0, none⟩), .pointer (some ⟨R, 0, none⟩)] 48)).alloc (.cells #[.int .i64 kind, .bool sec, .string xk, .int .u64 xs, .bool xd, .string xv, .int .i64 nn] 55)).heap[w.heap.size + 1]? = some (.cells #[.int .i64 kind, .bool sec, .string xk, .int .u64 xs, .bool xd, .string xv, .int .i64 nn] 55) := by
    have := World.alloc_heap_new (w.alloc (.cells #[.pointer (some ⟨L, 0, none⟩), .pointer (some ⟨R, 0, none⟩)] 48)) (.cells #[.int .i64 kind, .bool sec, .string xk, .int .u64 xs, .bool xd, .string xv, .int .i64 nn] 55)
    rwa [World.size_alloc] at this
  have hs1 : ((w.alloc (.cells #[.pointer (some ⟨L, 0, none⟩), .pointer (some ⟨R, 0, none⟩)] 48)).alloc (.cells #[.int .i64 kind, .bool sec, .string xk, .int .u64 xs, .bool xd, .string xv, .int .i64 nn] 55)).heap.size = w.heap.size + 2 := by simp
  clear h hN hal hK
  go_enter Try.func42, Try.ntmps42
  go_upto_region 1 with (fail)
  generalize (w.alloc (.cells #[.pointer (some ⟨L, 0, none⟩), .pointer (some ⟨R, 0, none⟩)] 48)).alloc (.cells #[.int .i64 kind, .bool sec, .string xk, .int .u64 xs, .bool xd, .string xv, .int .i64 nn] 55) = W1 at *
  have HBX : Hid (∀ W, Below W1.heap.size W1 W → W.cell? ⟨w.heap.size, 0, none⟩ = some (.pointer (some ⟨L, 0, none⟩)) ∧ W.cell? ⟨w.heap.size, 1, none⟩ = some (.pointer (some ⟨R, 0, none⟩)) ∧ W.cell? ⟨w.heap.size + 1, 2, none⟩ = some (.string xk) ∧ W.cell? ⟨w.heap.size + 1, 3, none⟩ = some (.int .u64 xs) ∧ W.cell? ⟨w.heap.size + 1, 6, none⟩ = some (.int .i64 nn)) := fun W hW => by
    have k1 := (hW.block _ (by omega : w.heap.size < W1.heap.size)).trans g1
    have k2 := (hW.block _ (by omega : w.heap.size + 1 < W1.heap.size)).trans g2
    exact ⟨by rw [cell_of_obj k1]; rfl, by rw [cell_of_obj k1]; rfl, by rw [cell_of_obj k2]; rfl, by rw [cell_of_obj k2]; rfl, by rw [cell_of_obj k2]; rfl⟩
  have HB1 : Hid (Below w.heap.size w W1) := hb1
  clear hb1 g1 g2 hs1
  obtain ⟨p0, p1, o2, o3, o6⟩ := HBX.out W1 (Below.refl _ _)
  go_wp2_with fail
  refine (refFrom_any W1 R ds (esN ns) (hsN ns) bs (HP.out.below HB1.out).rl (by rw [esN_len, HN.out]; omega) xk xs).mono ?_
  rintro e w2 ⟨a2, c2, rfl, hi2, hc2, _, hb2⟩
  rw [HAL.out.1] at hi2
  rw [HAL.out.2.2.1] at hc2 ⊢
  have hc3 : (K : Int) ≤ (c2 : Int) := by omega
  clear hc2
  have HB2 : Hid (Below W1.heap.size W1 w2) := hb2
  have HI2 : Hid (IsE w2 a2 al) := hi2
  clear hi2 hb2 p0 p1 o2 o3 o6
  obtain ⟨p0, p1, o2, o3, o6⟩ := HBX.out w2 HB2.out
  go_wp2_with fail
  refine (from_any L xk xs w2).mono ?_
  rintro e w3 ⟨rfl, hw3⟩
  have hb3 : Below w2.heap.size w2 w3 := by rw [hw3]; exact (((Below.refl _ _).alloc (Nat.le_refl _) _).alloc (by simp) _).alloc (by simp; omega) _
  have k1 : w3.cell? ⟨w2.heap.size, 0, none⟩ = some (.pointer (some ⟨L, 0, none⟩)) := by
    rw [hw3, World.cell?_of_block (Below.heap_alloc _ _ _ (by simp <;> omega)), World.cell?_of_block (Below.heap_alloc _ _ _ (by simp <;> omega)), World.cell?_alloc_at _ _ _ _ rfl]; rfl
  have k2 : w3.cell? ⟨w2.heap.size + 1, 0, none⟩ = some (.string xk) := by
    rw [hw3, World.cell?_of_block (Below.heap_alloc _ _ _ (by simp <;> omega)), World.cell?_alloc_at _ _ _ _ (by simp)]; rfl
  have k3 : w3.cell? ⟨w2.heap.size + 2, 0, none⟩ = some (.int .u64 xs) := by
    rw [hw3, World.cell?_alloc_at _ _ _ _ (by simp)]; rfl
  clear hw3 p0 p1 o2 o3 o6
  have HB3 : Hid (Below W1.heap.size W1 w3) := keepB hb3 HB2.out
  have HI3 : Hid (IsE w3 a2 al) := HI2.out.below hb3
  have hsl3 : Sl t T w3 L ds ns := (HP.out.sl.below HB1.out).below HB3.out
  obtain ⟨pre, post, hwk⟩ := Wk.of hsl3 xk xs
  have hpo : post.map Nd.e = al := by rw [post_of hwk]; exact HAL.out.2.2.2
  have HTA : Hid (∀ W, Below w3.heap.size w3 W → Calls Try.prog 18 #[.func (.func 46) #[] #[.pointer (some ⟨w2.heap.size, 0, none⟩), .pointer (some ⟨w2.heap.size + 1, 0, none⟩), .pointer (some ⟨w2.heap.size + 2, 0, none⟩)], .int .i64 nn] W fun e w' => ∃ a c, e = .returned (.tuple #[.slice a (tkn nn al).length c, .bool true]) ∧ IsE w' a (tkn nn al) ∧ (a = none → c = 0) ∧ Below W.heap.size W w') := fun W hW => by
    have := taken_any nn w2.heap.size (w2.heap.size + 1) (w2.heap.size + 2) L xk xs ns pre post W (hwk.under hW) ((Und.cell k1 ⟨W, hW⟩)) ((Und.cell k2 ⟨W, hW⟩)) ((Und.cell k3 ⟨W, hW⟩)) (by rw [HN.out]; omega)
    rw [hpo] at this
    exact this
  clear hb3 k1 k2 k3 hsl3 hwk hpo HB2 HI2
  obtain ⟨p0, p1, o2, o3, o6⟩ := HBX.out w3 HB3.out
  generalize w2.heap.size = BF at *
  by_cases hn0 : 0 ≤ nn
  · have z0 : decide (0 ≤ nn) = true := decide_eq_true hn0
    by_cases hn1 : nn < (K : Int)
    · obtain ⟨e1, e2⟩ := take_of_slice (l := al) hn0 (by rw [HAL.out.2.1]; exact hn1)
      have HE1 : Hid (tkn nn al = al.take nn.toNat ∧ (tkn nn al).length = nn.toNat) := ⟨e1, e2⟩
      clear e1 e2
      obtain ⟨b2, o2', rfl, _⟩ := HI3.out.at_ (by rw [HAL.out.2.1]; omega)
      have z3 : nn ≤ (c2 : Int) := by omega
      have z4 : decide (nn < (K : Int)) = true := decide_eq_true hn1
      have HNK : Hid (nn < (K : Int)) := hn1
      go_upto_region 5 with (fail)
      obtain ⟨M, hM⟩ : ∃ M, (tkn nn al).length = M := ⟨_, rfl⟩
      have HM : Hid ((tkn nn al).length = M) := hM
      have hMb : M ≤ 2932031007402 := by rw [← hM, HE1.out.2]; have := HNK.out; omega
      rw [← HE1.out.2, hM]
      rw [hM] at HTA
      have HIW : Hid (IsE w3 (some ⟨b2, o2', none⟩) (tkn nn al)) := by
        rw [HE1.out.1]; exact IsE.take HI3.out _
      clear hM
      go_wp2
      go_loopw [7] (fun i wr => ∃ q : Nat, q ≤ 3 ∧ i = .int .i64 (q : Int) ∧ Hid (Below w3.heap.size w3 wr)) (fun i _ => 3 - (intOf i).toNat)
      case atStart => exact ⟨0, by omega, rfl, Below.refl _ _⟩
      case round =>
        obtain ⟨q, hq, rfl, HBR⟩ := hrel
        rename World => wa
        by_cases hlq : q < 3
        · have z1 : (q : Int) < 3 := by omega
          clear p0 p1 o2 o3 o6
          obtain ⟨p0, p1, o2, o3, o6⟩ := HBX.out wa (keepB HBR.out HB3.out)
          have HT2 : Hid _ := HTA.out wa HBR.out
          clear p0 p1 o2 o3
          go_wp2_with fail
          refine Calls.mono HT2.out ?_
          rintro e w5 ⟨a5, c5, rfl, hi5, hn5, hb5⟩
          have HSE : Hid (Calls Try.prog 23 #[.slice a5 M c5, .slice (some ⟨b2, o2', none⟩) M c2] w5 fun e w' => e = .returned (.bool true) ∧ ∃ n, w' = w5.drewN n) := sameEntries_true a5 _ c5 c2 M (tkn nn al) w5 hi5 ((HIW.out.below HBR.out).below hb5) HM.out (by omega)
          have HB5 : Hid (Below w3.heap.size w3 w5) := keepB hb5 HBR.out
          clear hi5 hn5 hb5 HT2 o6
          go_wp2_with fail
          refine HSE.out.mono ?_
          rintro e w6 ⟨rfl, n6, hw6⟩
          have HB6 : Hid (Below w3.heap.size w3 w6) := by rw [hw6]; exact below_drewN HB5.out _
          clear hw6 HSE HB5
          go_wp2
          go_roundw
          case rel => exact ⟨q + 1, by omega, by go_num, HB6⟩
          case measure => simp [intOf]; omega
        · obtain rfl : q = 3 := by omega
          go_wp2
          go_ret
          exact ⟨rfl, keepB (keepB HBR.out HB3.out) HB1.out⟩
    · have z1 : decide (nn < (K : Int)) = false := decide_eq_false hn1
      have e1 : tkn nn al = al := by
        unfold tkn
        rw [if_neg (by omega)]
        exact List.take_of_length_le (by rw [HAL.out.2.1]; omega)
      have HE1 : Hid (tkn nn al = al) := e1
      clear e1
      go_upto_region 5 with (fail)
      have e2 : K = (tkn nn al).length := by rw [HE1.out]; exact HAL.out.2.1.symm
      obtain ⟨M, hM⟩ : ∃ M, (tkn nn al).length = M := ⟨_, rfl⟩
      have HM : Hid ((tkn nn al).length = M) := hM
      have hMb : M ≤ 2932031007402 := by rw [← hM, HE1.out, HAL.out.2.1]; omega
      rw [e2, hM]
      rw [hM] at HTA
      have HIW : Hid (IsE w3 a2 (tkn nn al)) := by
        rw [HE1.out]; exact HI3.out
      clear hM e2
      go_wp2
      go_loopw [7] (fun i wr => ∃ q : Nat, q ≤ 3 ∧ i = .int .i64 (q : Int) ∧ Hid (Below w3.heap.size w3 wr)) (fun i _ => 3 - (intOf i).toNat)
      case atStart => exact ⟨0, by omega, rfl, Below.refl _ _⟩
      case round =>
        obtain ⟨q, hq, rfl, HBR⟩ := hrel
        rename World => wa
        by_cases hlq : q < 3
        · have z1 : (q : Int) < 3 := by omega
          clear p0 p1 o2 o3 o6
          obtain ⟨p0, p1, o2, o3, o6⟩ := HBX.out wa (keepB HBR.out HB3.out)
          have HT2 : Hid _ := HTA.out wa HBR.out
          clear p0 p1 o2 o3
          go_wp2_with fail
          refine Calls.mono HT2.out ?_
          rintro e w5 ⟨a5, c5, rfl, hi5, hn5, hb5⟩
          have HSE : Hid (Calls Try.prog 23 #[.slice a5 M c5, .slice a2 M c2] w5 fun e w' => e = .returned (.bool true) ∧ ∃ n, w' = w5.drewN n) := sameEntries_true a5 a2 c5 c2 M (tkn nn al) w5 hi5 ((HIW.out.below HBR.out).below hb5) HM.out (by omega)
          have HB5 : Hid (Below w3.heap.size w3 w5) := keepB hb5 HBR.out
          clear hi5 hn5 hb5 HT2 o6
          go_wp2_with fail
          refine HSE.out.mono ?_
          rintro e w6 ⟨rfl, n6, hw6⟩
          have HB6 : Hid (Below w3.heap.size w3 w6) := by rw [hw6]; exact below_drewN HB5.out _
          clear hw6 HSE HB5
          go_wp2
          go_roundw
          case rel => exact ⟨q + 1, by omega, by go_num, HB6⟩
          case measure => simp [intOf]; omega
        · obtain rfl : q = 3 := by omega
          go_wp2
          go_ret
          exact ⟨rfl, keepB (keepB HBR.out HB3.out) HB1.out⟩
  · have z0 : decide (0 ≤ nn) = false := decide_eq_false hn0
    have e1 : tkn nn al = al := by unfold tkn; rw [if_pos (by omega)]
    have HE1 : Hid (tkn nn al = al) := e1
    clear e1
    go_upto_region 5 with (fail)
    have e2 : K = (tkn nn al).length := by rw [HE1.out]; exact HAL.out.2.1.symm
    obtain ⟨M, hM⟩ : ∃ M, (tkn nn al).length = M := ⟨_, rfl⟩
    have HM : Hid ((tkn nn al).length = M) := hM
    have hMb : M ≤ 2932031007402 := by rw [← hM, HE1.out, HAL.out.2.1]; omega
    rw [e2, hM]
    rw [hM] at HTA
    have HIW : Hid (IsE w3 a2 (tkn nn al)) := by
      rw [HE1.out]; exact HI3.out
    clear hM e2
    go_wp2
    go_loopw [7] (fun i wr => ∃ q : Nat, q ≤ 3 ∧ i = .int .i64 (q : Int) ∧ Hid (Below w3.heap.size w3 wr)) (fun i _ => 3 - (intOf i).toNat)
    case atStart => exact ⟨0, by omega, rfl, Below.refl _ _⟩
    case round =>
      obtain ⟨q, hq, rfl, HBR⟩ := hrel
      rename World => wa
      by_cases hlq : q < 3
      · have z1 : (q : Int) < 3 := by omega
        clear p0 p1 o2 o3 o6
        obtain ⟨p0, p1, o2, o3, o6⟩ := HBX.out wa (keepB HBR.out HB3.out)
        have HT2 : Hid _ := HTA.out wa HBR.out
        clear p0 p1 o2 o3
        go_wp2_with fail
        refine Calls.mono HT2.out ?_
        rintro e w5 ⟨a5, c5, rfl, hi5, hn5, hb5⟩
        have HSE : Hid (Calls Try.prog 23 #[.slice a5 M c5, .slice a2 M c2] w5 fun e w' => e = .returned (.bool true) ∧ ∃ n, w' = w5.drewN n) := sameEntries_true a5 a2 c5 c2 M (tkn nn al) w5 hi5 ((HIW.out.below HBR.out).below hb5) HM.out (by omega)
        have HB5 : Hid (Below w3.heap.size w3 w5) := keepB hb5 HBR.out
        clear hi5 hn5 hb5 HT2 o6
        go_wp2_with fail
        refine HSE.out.mono ?_
        rintro e w6 ⟨rfl, n6, hw6⟩
        have HB6 : Hid (Below w3.heap.size w3 w6) := by rw [hw6]; exact below_drewN HB5.out _
        clear hw6 HSE HB5
        go_wp2
        go_roundw
        case rel => exact ⟨q + 1, by omega, by go_num, HB6⟩
        case measure => simp [intOf]; omega
      · obtain rfl : q = 3 := by omega
        go_wp2
        go_ret
        exact ⟨rfl, keepB (keepB HBR.out HB3.out) HB1.out⟩
end Sk
end Go.Proofs.Ytfomnkkpiflokaa
