import Derived.Test.YtfomnkkpiflokaaRf4
import Derived.Test.YtfomnkkpiflokaaTk5
import Derived.Test.YtfomnkkpiflokaaSt1
namespace Go.Proofs.Ytfomnkkpiflokaa
namespace Sk
open Go.RowKit Laws Irw Erw KMath Skm Byt
set_option linter.unusedVariables false
set_option maxRecDepth 100000
set_option linter.unusedSimpArgs false

def esN (ns : List Nd) : List En := ns.map Nd.e
def hsN (ns : List Nd) : List Int := ns.map fun n => (n.h : Int)
theorem esN_len (ns : List Nd) : (esN ns).length = ns.length := by simp [esN]
theorem hsN_len (ns : List Nd) : (hsN ns).length = ns.length := by simp [hsN]
theorem drop_from (k : ByteArray) (s : Int) (ns : List Nd) : (esN ns).drop (plc k s (esN ns)) = (ns.dropWhile (aheadB k s)).map Nd.e := by
  rw [plc_drop]
  unfold esN
  rw [List.dropWhile_map]
  rfl
/-- Seek's answers are alike -/
theorem seek_same (k : ByteArray) (s : Int) (ns : List Nd) : refSeekV (esN ns) (plc k s (esN ns)) = seekV (ns.dropWhile (aheadB k s)) := by
  have h := drop_from k s ns
  have hl := plc_le k s (esN ns)
  cases hd : ns.dropWhile (aheadB k s) with
  | nil =>
    rw [hd, List.map_nil, List.drop_eq_nil_iff] at h
    unfold refSeekV
    rw [if_neg (by omega)]
    rfl
  | cons n r =>
    rw [hd, List.map_cons] at h
    have h1 : plc k s (esN ns) < (esN ns).length := by
      rcases Nat.lt_or_ge (plc k s (esN ns)) (esN ns).length with h2 | h2
      · exact h2
      · rw [List.drop_eq_nil_of_le h2] at h; cases h
    have h2 : (esN ns).getD (plc k s (esN ns)) ez = n.e := by
      rw [List.drop_eq_getElem_cons h1] at h
      simp only [List.cons.injEq] at h
      simp [h1, h.1]
    unfold refSeekV
    rw [if_pos h1, h2]
    rfl
theorem takeW_append {α : Type} {p : α → Bool} : ∀ {a b : List α}, (∀ x ∈ a, p x = true) → (∀ x ∈ b, p x = false) → (a ++ b).takeWhile p = a
  | [], b, _, hb => by
    cases b with
    | nil => rfl
    | cons x r => rw [List.nil_append, List.takeWhile_cons, if_neg (by rw [hb x (by simp)]; exact Bool.false_ne_true)]
  | x :: a, b, ha, hb => by
    rw [List.cons_append, List.takeWhile_cons, if_pos (ha x (by simp)), takeW_append (fun y hy => ha y (by simp [hy])) hb]
theorem cmpE_eq_right {a : ByteArray} {m : Int} {x y : En} (h : cmpE x.1 y.1 x.2.1 y.2.1 = 0) : cmpE a x.1 m x.2.1 = cmpE a y.1 m y.2.1 := by
  obtain ⟨h1, h2⟩ := (cmpE_zero_iff _ _ _ _).1 h
  rw [toList_inj h1, h2]
theorem plc_at {ns pre post : List Nd} {x : En} (hcut : ns = pre ++ post) (h1 : ∀ n ∈ pre, ahB n.e x = true) (h2 : ∀ n ∈ post, ahB n.e x = false) : plc x.1 x.2.1 (esN ns) = pre.length := by
  unfold plc esN
  rw [hcut, List.map_append, takeW_append]
  · simp
  · intro y hy
    obtain ⟨n, hn, rfl⟩ := List.mem_map.1 hy
    exact h1 n hn
  · intro y hy
    obtain ⟨n, hn, rfl⟩ := List.mem_map.1 hy
    exact h2 n hn
theorem ahB_of_lt {a b : En} (h : ltE a b) : ahB a b = true := decide_eq_true h
theorem ahB_not {a b : En} (h : ltE b a) : ahB a b = false := decide_eq_false (ltE_asym _ _ h)
/-- both Puts do the same -/
theorem put_same {ds : List Nat} {ns ns' : List Nd} {x : En} {ok : Bool} (hs : ns.Pairwise (fun a b => ltE a.e b.e)) (hs' : ns'.Pairwise (fun a b => ltE a.e b.e)) (hp : PutIs ds ns x ns' ok) :
    (ok = false ∧ Dup (esN ns) x ∧ esN ns' = esN ns ∧ hsN ns' = hsN ns) ∨ (ok = true ∧ ¬ Dup (esN ns) x ∧ esN ns' = insP (esN ns) (plc x.1 x.2.1 (esN ns)) x ∧ hsN ns' = insP (hsN ns) (plc x.1 x.2.1 (esN ns)) (hgt ds (esN ns).length : Int)) := by
  rcases hp with ⟨rfl, rfl, nd, h1, h2⟩ | ⟨rfl, h1, pre, post, b, h2, h3⟩
  · left
    refine ⟨rfl, ?_, rfl, rfl⟩
    obtain ⟨pre, post, hcut⟩ := List.append_of_mem h1
    have hs2 := hs
    rw [hcut, List.pairwise_append] at hs2
    have hM : plc x.1 x.2.1 (esN ns') = pre.length := by
      refine plc_at hcut (fun n hn => ?_) (fun n hn => ?_)
      · have := hs2.2.2 n hn nd (by simp)
        unfold ltE at this
        rw [cmpE_eq_right h2] at this
        exact decide_eq_true this
      · rcases List.mem_cons.1 hn with rfl | hn
        · exact decide_eq_false (by rw [h2]; omega)
        · have h4 := (List.pairwise_cons.1 hs2.2.1).1 n hn
          have h5 := ltE_asym _ _ h4
          unfold ltE at h5
          rw [cmpE_eq_right h2] at h5
          exact decide_eq_false h5
    have hlt : pre.length < (esN ns').length := by rw [esN_len, hcut]; simp
    have hget : (esN ns').getD pre.length ez = nd.e := by
      unfold esN
      rw [hcut, List.map_append, List.map_cons]
      simp
    obtain ⟨q1, q2⟩ := (cmpE_zero_iff _ _ _ _).1 h2
    exact ⟨by rw [hM]; exact hlt, by rw [hM, hget]; exact toList_inj q1, by rw [hM, hget]; exact q2⟩
  · right
    rw [h3, List.pairwise_append] at hs'
    have hM : plc x.1 x.2.1 (esN ns) = pre.length := plc_at h2 (fun n hn => ahB_of_lt (hs'.2.2 n hn ⟨b, x, hgt ds ns.length⟩ (List.mem_cons_self ..))) (fun n hn => ahB_not ((List.pairwise_cons.1 hs'.2.1).1 n hn))
    refine ⟨rfl, ?_, ?_, ?_⟩
    · rintro ⟨d1, d2, d3⟩
      have d1' : plc x.1 x.2.1 (esN ns) < ns.length := by rw [esN_len] at d1; exact d1
      have hg : (esN ns).getD (plc x.1 x.2.1 (esN ns)) ez = ns[plc x.1 x.2.1 (esN ns)].e := by
        unfold esN at d1' ⊢
        simp [d1']
      refine h1 _ (List.getElem_mem d1') ?_
      rw [← hg, d2, d3]
      exact (cmpE_zero_iff _ _ _ _).2 ⟨rfl, rfl⟩
    · rw [hM, h3]
      unfold insP esN
      rw [h2]
      simp
    · rw [hM, h3, esN_len]
      unfold insP hsN
      rw [h2]
      simp

/-- the two lists of a pair -/
structure Pr (t u : Nat) (T : Nat → Nat) (w : World) (L R : Nat) (ds : List Nat) (ns : List Nd) (bs : List Nat) : Prop where
  sl : Sl t T w L ds ns
  rl : Rl w R ds (esN ns) (hsN ns) bs
  tR : T R = u
  tb : ∀ b ∈ bs, T b = u
theorem Rl.same {w w' : World} {R : Nat} {ds : List Nat} {es : List En} {hs : List Int} {bs : List Nat} (h : Rl w R ds es hs bs) (hsz : w.heap.size ≤ w'.heap.size) (hR : w'.heap[R]? = w.heap[R]?) (hblk : ∀ b ∈ bs, w'.heap[b]? = w.heap[b]?) : Rl w' R ds es hs bs := by
  have hc : ∀ j, w'.cell? ⟨R, j, none⟩ = w.cell? ⟨R, j, none⟩ := fun j => World.cell?_of_block hR
  obtain ⟨a, c, e1, e2, e3, e4, e6, e5⟩ := h.ent
  obtain ⟨a2, c2, f1, f2, f3, f4, f6, f5⟩ := h.hig
  obtain ⟨a3, c3, g1, g2, g3⟩ := h.dra
  refine ⟨Nat.lt_of_lt_of_le h.lt hsz, ⟨a, c, by rw [hc]; exact e1, fun hne => ?_, e3, e4, e6, e5⟩, ⟨a2, c2, by rw [hc]; exact f1, fun hne => ?_, f3, f4, f6, f5⟩, ⟨a3, c3, by rw [hc]; exact g1, ⟨fun hne => ?_, g2.2⟩, g3⟩, by rw [hc]; exact h.use, fun j => by rw [← h.fro j]; exact World.frozen?_of_block hR, h.len, fun b hm => ⟨Nat.lt_of_lt_of_le (h.low b hm).1 hsz, (h.low b hm).2⟩⟩
  · obtain ⟨b, off, rfl, hr⟩ := e2 hne
    obtain ⟨g, hg, eg⟩ := e5 _ rfl
    simp only [Addr.mk.injEq] at eg
    exact ⟨b, off, rfl, hr.keep (hblk b (by rw [eg.1]; exact hg)) hsz⟩
  · obtain ⟨b, off, rfl, hr⟩ := f2 hne
    obtain ⟨g, hg, eg⟩ := f5 _ rfl
    simp only [Addr.mk.injEq] at eg
    exact ⟨b, off, rfl, hr.keep (hblk b (by rw [eg.1]; exact hg)) hsz⟩
  · obtain ⟨b, off, rfl, hr⟩ := g2.1 hne
    exact ⟨b, off, rfl, hr.keep (hblk b (g3 _ rfl)) hsz⟩
theorem Pr.goes {t u : Nat} {v : Nat → Prop} {T T' : Nat → Nat} {w w' : World} {L R : Nat} {ds : List Nat} {ns : List Nd} {bs : List Nat} (h : Pr t u T w L R ds ns bs) (hg : Goes v T w T' w') (h1 : ¬ v t) (h2 : ¬ v (t + 1)) (h3 : ¬ v u) : Pr t u T' w' L R ds ns bs :=
  ⟨h.sl.goes hg h1 h2, h.rl.same hg.size (hg.block _ h.rl.lt (by rw [h.tR]; exact h3)) (fun b hb => hg.block _ (h.rl.low b hb).1 (by rw [h.tb b hb]; exact h3)), (hg.tag _ h.rl.lt (by rw [h.tR]; exact h3)).trans h.tR, fun b hb => (hg.tag _ (h.rl.low b hb).1 (by rw [h.tb b hb]; exact h3)).trans (h.tb b hb)⟩
theorem Pr.below {t u : Nat} {T : Nat → Nat} {w w' : World} {L R : Nat} {ds : List Nat} {ns : List Nd} {bs : List Nat} (h : Pr t u T w L R ds ns bs) (hb : Below w.heap.size w w') : Pr t u T w' L R ds ns bs := h.goes (Goes.below (t := fun _ => False) hb) (fun z => z) (fun z => z) (fun z => z)
end Sk
end Go.Proofs.Ytfomnkkpiflokaa
