import Derived.Test.YtecgecolghgjoaaVk
import Derived.Laws.CopyOwn
import Derived.OwnWalk
import Derived.Deep.RegionWith
namespace Go.Proofs.Ytecgecolghgjoaa
namespace Vr
open Go.RowKit Laws Irw Crw
set_option linter.unusedVariables false
set_option linter.unusedSimpArgs false
set_option maxRecDepth 20000
theorem run_copy_sz {P : Program} (w : World) (dT sT ty elem : TypeId) (g o dLen dCap : Nat) (a : Addr) (sLen sCap size : Nat) (cur : Array Value) (t : TypeId) (cs : List Value)
    (hu : P.underlying dT = some (.slice elem)) (hs : (P.info? elem).map (·.size) = some size)
    (hg : w.heap[g]? = some (.cells cur t (0, 0))) (hn : cs.length = Nat.min sLen dLen * size)
    (hsrc : ∀ j v, cs[j]? = some v → w.cell? (a.add j) = some v) (hfit : o + cs.length ≤ cur.size) (h1 : ∀ v ∈ cs, v.oneCell' = true) :
    (Builtin.copy_ #[dT, sT] ty #[.slice (some ⟨g, o, none⟩) dLen dCap, .slice (some a) sLen sCap]).run P w =
      .ok (goInt (Nat.min sLen dLen)) (w.setRow g (cur.toList.take o ++ cs ++ cur.toList.drop (o + cs.length)).toArray) := by
  have hl := run_loadCells_list (P := P) w a cs hsrc
  have hst := run_storeCells_at P g o t cs 0 cur w hg (by simpa using hfit) h1
  cases hq : P.info? elem with
  | none => simp [hq] at hs
  | some i =>
    have hi : i.size = size := by simpa [hq] using hs
    simp [Builtin.copy_, run_underlying hu, Builtin.lenOf, Builtin.firstCells, sizeOf, typeInfo, hq, hi, ← hn, hl, hst]
theorem run_copy_sz0 {P : Program} (w : World) (dT sT ty elem : TypeId) (d a : Option Addr) (dLen dCap sLen sCap size : Nat) (hu : P.underlying dT = some (.slice elem)) (hs : (P.info? elem).map (·.size) = some size) (hn : Nat.min sLen dLen = 0) :
    (Builtin.copy_ #[dT, sT] ty #[.slice d dLen dCap, .slice a sLen sCap]).run P w = .ok (goInt 0) w := by
  cases hq : P.info? elem with
  | none => simp [hq] at hs
  | some i =>
    have hn' : min sLen dLen = 0 := hn
    cases d <;> cases a <;> simp [Builtin.copy_, run_underlying hu, Builtin.lenOf, Builtin.firstCells, sizeOf, typeInfo, hq, hn', loadCells, loadCellsFrom, storeCells]
/-- copy of a list into what was made for it -/
theorem run_copyK {P : Program} {α : Type} (K : Knd α) (w : World) (dT sT ty : TypeId) (hu : P.underlying dT = some (.slice K.ty)) (hs : (P.info? K.ty).map (·.size) = some K.size) (G n c : Nat) (sp : Option Addr) (l : List α) (cells : List Value)
    (hown : w.ownsRow 0 K.ty K.size (.slice (some ⟨G, 0, none⟩) n n) n cells) (hr : IsK K w sp l) (hn : l.length = n) :
    ∃ w', (Builtin.copy_ #[dT, sT] ty #[.slice (some ⟨G, 0, none⟩) n n, .slice sp n c]).run P w = .ok (goInt n) w' ∧ w'.ownsRow 0 K.ty K.size (.slice (some ⟨G, 0, none⟩) n n) n (K.cells l) ∧ (∀ B w0, Below B w0 w → B ≤ G → Below B w0 w') := by
  by_cases h0 : n = 0
  · subst h0
    have hl : l = [] := List.eq_nil_of_length_eq_zero hn
    subst hl
    refine ⟨w, run_copy_sz0 (P := P) w dT sT ty K.ty _ _ 0 0 0 c K.size hu hs rfl, ?_, fun B w0 h _ => h⟩
    have : cells = [] := List.eq_nil_of_length_eq_zero (by rw [hown.1]; simp)
    subst this
    exact hown
  · obtain ⟨b, off, rfl, hk⟩ := hr.at_ (by omega)
    have hc := newsK hr _ rfl
    rcases hown.2 with ⟨h1, _⟩ | ⟨g, cap, cur, hv, hb, hh, hcp, hm, hsz, ht⟩
    · cases h1
    · cases hv
      have hlen : (K.cells l).length = n * K.size := by rw [K.cells_length, hn]
      have hrun := run_copy_sz (P := P) w dT sT ty K.ty G 0 n n ⟨b, off, none⟩ n c K.size cur K.ty (K.cells l) hu hs hh (by rw [hlen]; simp [Nat.min_def]) hc (by rw [hlen, hsz]; omega) (K.cells_one l)
      have e : cur.toList.take 0 ++ K.cells l ++ cur.toList.drop (0 + (K.cells l).length) = K.cells l := by
        rw [List.drop_of_length_le (by simp [hlen, hsz])]
        simp
      rw [e, show Nat.min n n = n from Nat.min_self n] at hrun
      refine ⟨_, hrun, ⟨hlen, .inr ⟨G, n, (K.cells l).toArray, rfl, hb, setRow_heap w G _ _ _ _ hh, hcp, hm, by simpa using hlen, ?_⟩⟩, fun B w0 h hB => below_setRow h hB _⟩
      simp [← hlen]
theorem wpList_copyK {P : Program} {α : Type} (K : Knd α) (w : World) {ops : Array Oper} {rest : List Oper} {o : Oper} {a : Act} {Q : Exit → Act → World → Prop} (hgd : o.guard = none) (d s : Operand) (dT sT : TypeId)
    (ho : o.op = .call { callee := .builtin .copy, args := #[d, s], argTypes := #[dT, sT] }) (hu : P.underlying dT = some (.slice K.ty)) (hs : (P.info? K.ty).map (·.size) = some K.size) (G n c : Nat) (sp : Option Addr) (l : List α) (cells : List Value)
    (hd : a.eval d = .slice (some ⟨G, 0, none⟩) n n) (hx : a.eval s = .slice sp n c)
    (hown : w.ownsRow 0 K.ty K.size (.slice (some ⟨G, 0, none⟩) n n) n cells) (hr : IsK K w sp l) (hn : l.length = n)
    (h : ∀ w', w'.ownsRow 0 K.ty K.size (.slice (some ⟨G, 0, none⟩) n n) n (K.cells l) → (∀ B w0, Below B w0 w → B ≤ G → Below B w0 w') → wpList P ops Q rest (a.put o.dst (goInt n)) w') : wpList P ops Q (o :: rest) a w := by
  refine wpList_plain hgd fun K' hK => ?_
  obtain ⟨w', hrun, h1, h2⟩ := run_copyK (P := P) K w dT sT o.type hu hs G n c sp l cells hown hr hn
  unfold Oper.wp
  simp [execOp, ho, resolve, invoke, builtin, hd, hx, hrun, Result.andThen]
  exact hK _ _ (h w' h1 h2)

/-! tables as they lie -/
def tbC (t : Tb) : List Value := [.int .u64 (t.no : Int), .int .i64 t.we, .int .i64 t.by_, .int .i64 t.en, .string t.le, .string t.gr]
def tbV (t : Tb) : Value := .agg #[.int .u64 (t.no : Int), .int .i64 t.we, .int .i64 t.by_, .int .i64 t.en, .string t.le, .string t.gr]
def kTb : Knd Tb := ⟨47, 6, 64, .agg #[.int .u64 0, .int .i64 0, .int .i64 0, .int .i64 0, .string ⟨#[]⟩, .string ⟨#[]⟩], tbC, fun _ => rfl, fun x u hu => by simp [tbC] at hu; rcases hu with rfl | rfl | rfl | rfl | rfl | rfl <;> rfl, by omega, rfl, by omega⟩
def kS : Knd Sv := ⟨58, 1, 24, .slice none 0 0, fun s => [.slice s.1 s.2.1 s.2.2], fun _ => rfl, fun x u hu => by simp at hu; subst hu; rfl, by omega, rfl, by omega⟩
def kT : Knd ByteArray := ⟨9, 1, 16, .string ⟨#[]⟩, fun s => [.string s], fun _ => rfl, fun x u hu => by simp at hu; subst hu; rfl, by omega, rfl, by omega⟩
def piC (p : Pi) : List Value := .int .i64 p.lv :: tbC p.t
def kPi : Knd Pi := ⟨49, 7, 72, .agg #[.int .i64 0, .int .u64 0, .int .i64 0, .int .i64 0, .int .i64 0, .string ⟨#[]⟩, .string ⟨#[]⟩], piC, fun _ => rfl, fun x u hu => by simp [piC, tbC] at hu; rcases hu with rfl | rfl | rfl | rfl | rfl | rfl | rfl <;> rfl, by omega, rfl, by omega⟩
theorem infoTb : (Try.prog.info? 47).map (fun i => (i.zero, i.size, i.bytes)) = some (some kTb.zero, 6, 64) := by kernel_rfl
theorem infoS : (Try.prog.info? 58).map (fun i => (i.zero, i.size, i.bytes)) = some (some kS.zero, 1, 24) := by kernel_rfl
theorem infoT : (Try.prog.info? 9).map (fun i => (i.zero, i.size, i.bytes)) = some (some kT.zero, 1, 16) := by kernel_rfl
theorem infoPi : (Try.prog.info? 49).map (fun i => (i.zero, i.size, i.bytes)) = some (some kPi.zero, 7, 72) := by kernel_rfl
theorem info_parts {P : Program} {t : TypeId} {z : Value} {n b : Nat} (h : (P.info? t).map (fun i => (i.zero, i.size, i.bytes)) = some (some z, n, b)) : ∃ i, P.info? t = some i ∧ i.zero = some z ∧ i.size = n ∧ i.bytes = b := by
  cases hq : P.info? t with
  | none => rw [hq] at h; cases h
  | some i =>
    rw [hq] at h
    simp at h
    exact ⟨i, rfl, h.1, h.2.1, h.2.2⟩
theorem info_size {P : Program} {t : TypeId} {z : Value} {n b : Nat} (h : (P.info? t).map (fun i => (i.zero, i.size, i.bytes)) = some (some z, n, b)) : (P.info? t).map (·.size) = some n := by
  obtain ⟨i, h1, _, h2, _⟩ := info_parts h
  rw [h1, ← h2]; rfl
/-- a list of tables is read -/
theorem Ls.cell {α : Type} {K : Knd α} {w : World} {s : Sv} {l : List α} (h : Ls K w s l) {i : Nat} {x : α} (hx : l[i]? = some x) : ∃ b off, s.1 = some ⟨b, off, none⟩ ∧ b < w.heap.size ∧ ∀ j u, (K.cs x)[j]? = some u → w.cell? ⟨b, off + i * K.size + j, none⟩ = some u := by
  obtain ⟨b, off, e, hr⟩ := h.1.at_ (by have := (List.getElem?_eq_some_iff.1 hx).1; omega)
  exact ⟨b, off, e, hr.1, hr.2 i x hx⟩
theorem Ls.nil {α : Type} {K : Knd α} (w : World) : Ls K w nS [] := ⟨IsK.nil _ _, rfl, fun _ => rfl, Nat.le_refl _, .inl rfl⟩
theorem Ls.own {α : Type} {K : Knd α} {w : World} {s : Sv} {l : List α} {t : Nat} {T : Nat → Nat} (h : OwnK K t T w (svV s) l) : Ls K w s l := by
  obtain ⟨h1, h2, h3, h4, h5, _⟩ := OwnK.sk h
  exact ⟨h2, h1, h4, h3, h5⟩
theorem Ls.row {α : Type} {K : Knd α} {w : World} {G n : Nat} {l : List α} (h : w.ownsRow 0 K.ty K.size (.slice (some ⟨G, 0, none⟩) n n) n (K.cells l)) (hn : l.length = n) : Ls K w (some ⟨G, 0, none⟩, n, n) l := by
  subst hn
  exact Ls.own (t := 0) (T := fun _ => 0) (s := (some ⟨G, 0, none⟩, l.length, l.length)) ⟨h, fun _ _ => rfl⟩
/-- the levels of a version -/
def LsAt (w : World) (s : Sv) (V : Lv) : Prop := s.2.1 = V.length ∧ ∃ vs : List Sv, vs.length = V.length ∧ IsK kS w s.1 vs ∧ ∀ (i : Nat) v l, vs[i]? = some v → V[i]? = some l → Ls kTb w v l
theorem LsAt.below {w w' : World} {s : Sv} {V : Lv} (h : LsAt w s V) (hb : Below w.heap.size w w') : LsAt w' s V := by
  obtain ⟨h1, vs, h2, h3, h4⟩ := h
  exact ⟨h1, vs, h2, h3.below hb, fun i v l hv hl => (h4 i v l hv hl).below hb⟩
/-- the lengths that there are -/
def Fits (V : Lv) : Prop := V.length ≤ 5 ∧ ∀ l ∈ V, l.length ≤ 3000000
def VAt (w : World) (vb : Nat) (V : Lv) : Prop := Fits V ∧ ∃ s : Sv, Zb w vb [svV s] ∧ LsAt w s V
theorem VAt.below {w w' : World} {vb : Nat} {V : Lv} (h : VAt w vb V) (hb : Below w.heap.size w w') : VAt w' vb V := by
  obtain ⟨h1, s, h2, h3⟩ := h
  exact ⟨h1, s, h2.below hb, h3.below hb⟩
theorem VAt.lt {w : World} {vb : Nat} {V : Lv} (h : VAt w vb V) : vb < w.heap.size := by
  obtain ⟨h1, s, h2, h3⟩ := h
  exact h2.1
/-- the list of a level, none where there is no such level -/
def lev (V : Lv) (i : Int) : List Tb := if 0 ≤ i then (V[i.toNat]?).getD [] else []
set_option maxHeartbeats 400000 in
theorem isLevel_any (a : Option Addr) (n c : Nat) (i : Int) (w : World) : Calls Try.prog 47 #[.slice a n c, .int .i64 i] w fun e w' => e = .returned (.bool (decide (0 ≤ i ∧ i < n))) ∧ w' = w := by
  by_cases q1 : 0 ≤ i
  · by_cases q2 : i < n
    · go_enter Try.func47, Try.ntmps47
      go_wp2
      go_ret
      refine ⟨?_, rfl⟩
      simp [q1, q2]
    · go_enter Try.func47, Try.ntmps47
      go_wp2
      go_ret
      refine ⟨?_, rfl⟩
      simp [q1, q2]
  · go_enter Try.func47, Try.ntmps47
    go_wp2
    go_ret
    refine ⟨?_, rfl⟩
    simp only [Ending.returned.injEq, Value.bool.injEq]
    simp [q1]
    omega
set_option maxHeartbeats 400000 in
theorem levels_any (vb : Nat) (V : Lv) (w : World) (h : VAt w vb V) : Calls Try.prog 23 #[.pointer (some ⟨vb, 0, none⟩)] w fun e w' => e = .returned (.int .i64 (V.length : Int)) ∧ w' = w := by
  obtain ⟨hf, s, hz, hl⟩ := h
  have c0 := hz.2.1 0 _ rfl
  obtain ⟨sa, sn, sc⟩ := s
  have e := hl.1
  change sn = V.length at e
  simp only [svV] at c0
  go_enter Try.func23, Try.ntmps23
  go_wp2
  go_ret
  exact ⟨rfl, rfl⟩
end Vr
end Go.Proofs.Ytecgecolghgjoaa
