import Derived.Test.YtfomnkkpiflokaaSo3
namespace Go.Proofs.Ytfomnkkpiflokaa
namespace Sk
open Go.RowKit Laws Irw Erw KMath Skm Byt
set_option linter.unusedVariables false
set_option maxRecDepth 100000
set_option linter.unusedSimpArgs false

def atE (k : ByteArray) (s : Int) : En := (k, s, false, ⟨#[]⟩)
def fitB (k : ByteArray) (s : Int) (y : En) : Bool := decide (y.1 = k ∧ y.2.1 ≤ s)
/-- the newest of a key at or below a number -/
structure Best (k : ByteArray) (s : Int) (l : List En) (f : Bool) (b : En) : Prop where
  no : f = false → ∀ x ∈ l, fitB k s x = false
  yes : f = true → b ∈ l ∧ fitB k s b = true ∧ ∀ x ∈ l, fitB k s x = true → x.2.1 ≤ b.2.1
theorem Best.nil (k : ByteArray) (s : Int) (b : En) : Best k s [] false b := ⟨by simp, by simp⟩
theorem Best.skip {k : ByteArray} {s : Int} {l : List En} {f : Bool} {b : En} (h : Best k s l f b) (x : En) (hx : fitB k s x = false ∨ (f = true ∧ x.2.1 ≤ b.2.1)) : Best k s (l ++ [x]) f b := by
  refine ⟨fun hf y hy => ?_, fun hf => ⟨List.mem_append_left _ (h.yes hf).1, (h.yes hf).2.1, fun y hy hp => ?_⟩⟩
  · rcases List.mem_append.1 hy with hy | hy
    · exact h.no hf y hy
    · rw [List.mem_singleton.1 hy]
      rcases hx with hx | hx
      · exact hx
      · rw [hf] at hx; cases hx.1
  · rcases List.mem_append.1 hy with hy | hy
    · exact (h.yes hf).2.2 y hy hp
    · rw [List.mem_singleton.1 hy] at hp ⊢
      rcases hx with hx | hx
      · rw [hx] at hp; cases hp
      · exact hx.2
theorem Best.take {k : ByteArray} {s : Int} {l : List En} {f : Bool} {b : En} (h : Best k s l f b) (x : En) (hx : fitB k s x = true) (h2 : f = false ∨ b.2.1 < x.2.1) : Best k s (l ++ [x]) true x := by
  refine ⟨by simp, fun _ => ⟨by simp, hx, fun y hy hp => ?_⟩⟩
  rcases List.mem_append.1 hy with hy | hy
  · cases f with
    | false => rw [h.no rfl y hy] at hp; cases hp
    | true =>
      have h3 := (h.yes rfl).2.2 y hy hp
      rcases h2 with h2 | h2
      · cases h2
      · omega
  · rw [List.mem_singleton.1 hy]; omega

/-- what a walk from a place gives -/
structure PartIs (k : ByteArray) (s : Int) (ins al : List En) : Prop where
  sorted : al.Pairwise ltE
  not : ∀ x ∈ al, ahB x (atE k s) = false
  sub : ∀ x ∈ al, x ∈ ins
  all : ∀ x ∈ ins, ahB x (atE k s) = false → x ∈ al
  count : cnt (fun y => !ahB y (atE k s)) ins ins.length = al.length
theorem PartIs.of {W : World} {L : Nat} {k : ByteArray} {s : Int} {ds : List Nat} {done ins : List En} {ns pre post : List Nd} (h : Wk W L k s ns pre post) (hm : MadeIs ds done ns ins) (hs : ns.Pairwise (fun a b => ltE a.e b.e)) : PartIs k s ins (post.map Nd.e) := by
  have hpre : ∀ n ∈ pre, ahB n.e (atE k s) = true := fun n hn => h.hpre n hn
  have hpost : ∀ n ∈ post, ahB n.e (atE k s) = false := fun n hn => h.hpost n hn
  refine ⟨?_, ?_, ?_, ?_, ?_⟩
  · rw [h.cut, List.pairwise_append] at hs
    exact List.pairwise_map.2 hs.2.1
  · intro x hx
    obtain ⟨n, hn, rfl⟩ := List.mem_map.1 hx
    exact hpost n hn
  · intro x hx
    obtain ⟨n, hn, rfl⟩ := List.mem_map.1 hx
    exact hm.perm.mem_iff.1 (List.mem_map.2 ⟨n, by rw [h.cut]; exact List.mem_append_right _ hn, rfl⟩)
  · intro x hx hp
    obtain ⟨n, hn, rfl⟩ := List.mem_map.1 (hm.perm.mem_iff.2 hx)
    rw [h.cut] at hn
    rcases List.mem_append.1 hn with hn | hn
    · rw [hpre n hn] at hp; cases hp
    · exact List.mem_map.2 ⟨n, hn, rfl⟩
  · rw [cnt_all, ← (hm.perm.filter _).length_eq, h.cut, List.map_append, List.filter_append, List.length_append]
    have e1 : (pre.map Nd.e).filter (fun y => !ahB y (atE k s)) = [] := by
      rw [List.filter_eq_nil_iff]
      intro x hx
      obtain ⟨n, hn, rfl⟩ := List.mem_map.1 hx
      simp [hpre n hn]
    have e2 : (post.map Nd.e).filter (fun y => !ahB y (atE k s)) = post.map Nd.e := by
      rw [List.filter_eq_self]
      intro x hx
      obtain ⟨n, hn, rfl⟩ := List.mem_map.1 hx
      simp [hpost n hn]
    rw [e1, e2]; simp
theorem ahB_at {k : ByteArray} {s : Int} {x : En} (h : ahB x (atE k s) = false) : ¬ (Op.bytesLess x.1.toList k.toList = true ∨ (x.1.toList = k.toList ∧ s < x.2.1)) := by
  rw [← cmpE_lt_iff]
  exact of_decide_eq_false h
theorem PartIs.found {k : ByteArray} {s : Int} {ins al : List En} {b : En} (h : PartIs k s ins al) (hb : Best k s ins true b) : 0 < al.length ∧ al.getD 0 ez = b ∧ b.1 = k := by
  obtain ⟨h1, h2, h3⟩ := hb.yes rfl
  simp only [fitB, decide_eq_true_eq] at h2
  have h4 : ahB b (atE k s) = false := by
    show decide _ = false
    rw [decide_eq_false_iff_not, cmpE_lt_iff]
    show ¬ (Op.bytesLess b.1.toList k.toList = true ∨ (b.1.toList = k.toList ∧ s < b.2.1))
    rw [h2.1, bl_irrefl]
    have := h2.2
    simp; omega
  have h5 := h.all b h1 h4
  cases hal : al with
  | nil => rw [hal] at h5; cases h5
  | cons e r =>
    refine ⟨by simp, ?_, h2.1⟩
    show e = b
    rw [hal] at h5
    rcases List.mem_cons.1 h5 with h6 | h6
    · exact h6.symm
    · exfalso
      have h7 := h.sorted
      rw [hal] at h7
      have h8 := (List.pairwise_cons.1 h7).1 b h6
      have h9 := ahB_at (h.not e (by rw [hal]; simp))
      unfold ltE at h8
      rw [cmpE_lt_iff, h2.1] at h8
      rcases h8 with h8 | ⟨h8, h10⟩
      · exact h9 (.inl h8)
      · have h11 : ¬ s < e.2.1 := fun z => h9 (.inr ⟨h8, z⟩)
        have h12 := h3 e (h.sub e (by rw [hal]; simp)) (by simp [fitB, toList_inj h8]; omega)
        omega
theorem PartIs.lost {k : ByteArray} {s : Int} {ins al : List En} {b : En} (h : PartIs k s ins al) (hb : Best k s ins false b) (hl : 0 < al.length) : (((al.getD 0 ez).1.toList == k.toList) = false) := by
  cases hal : al with
  | nil => rw [hal] at hl; simp at hl
  | cons e r =>
    show (e.1.toList == k.toList) = false
    rw [beq_eq_false_iff_ne]
    intro he
    have h9 := ahB_at (h.not e (by rw [hal]; simp))
    have h11 : ¬ s < e.2.1 := fun z => h9 (.inr ⟨he, z⟩)
    have h12 := hb.no rfl e (h.sub e (by rw [hal]; simp))
    simp only [fitB, decide_eq_false_iff_not] at h12
    exact h12 ⟨toList_inj he, by omega⟩
end Sk
end Go.Proofs.Ytfomnkkpiflokaa
