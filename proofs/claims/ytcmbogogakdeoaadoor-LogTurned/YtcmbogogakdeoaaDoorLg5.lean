import Derived.Test.YtcmbogogakdeoaaDoorLg4
namespace Go.Proofs.YtcmbogogakdeoaaDoor
namespace Lgg
open Go.RowKit CMath Byt Cod Lg Laws Grp Crw
set_option linter.unusedVariables false
set_option linter.unusedSimpArgs false
set_option maxRecDepth 20000

theorem Rd.others {w w' : World} {R : Nat} {bs : List Nat} {l : List Nat} {e : Nat} (h : Rd w R l e) (hk : Keep bs w w') (hg : ∀ g ∈ bs, R < g) : Rd w' R l e where
  lt := Nat.lt_of_lt_of_le h.lt hk.size
  c0 := by
    have hR : ∀ b, b ≤ R → b ∉ bs := fun b hb hm => by have := hg b hm; omega
    rcases h.c0 with ⟨h1, h2⟩ | ⟨b, off, c, h1, h2, h3, h4, h5⟩
    · exact .inl ⟨(hk.cell (p := ⟨R, 0, none⟩) h.lt (hR R (Nat.le_refl _))).trans h1, h2⟩
    · refine .inr ⟨b, off, c, (hk.cell (p := ⟨R, 0, none⟩) h.lt (hR R (Nat.le_refl _))).trans h1, h2, h3, h4, fun hne => ?_, h5.2⟩
      obtain ⟨b', off', e', hr⟩ := h5.1 hne
      cases e'
      exact ⟨b, off, rfl, hr.keep (hk.block b hr.1 (hR b (by omega))) hk.size⟩
  c1 := (hk.cell (p := ⟨R, 1, none⟩) h.lt (fun hm => by have := hg R hm; omega)).trans h.c1
  fr := fun j => (hk.frozen (p := ⟨R, j, none⟩) h.lt (fun hm => by have := hg R hm; omega)).trans (h.fr j)
  by_ := h.by_
theorem rdW_rest (l : List Nat) : (rdW l).2.1.length ≤ l.length := by
  rw [rdW_eq]
  have hk : (knd l).2.1.length ≤ l.length := by cases l with | nil => simp [knd] | cons c r => (unfold knd; dsimp only; split <;> simp)
  have hy : (ky (knd l).2.1).2.1.length ≤ (knd l).2.1.length := by simp [ky]
  split
  · simp
  · split
    · simp
    · split
      · dsimp only; omega
      · split
        · simp
        · simp; omega
theorem rdWs_rest (n : Nat) : ∀ l, (rdWs n l).2.1.length ≤ l.length := by
  induction n with
  | zero => intro l; exact Nat.le_refl _
  | succ n ih =>
    intro l
    unfold rdWs
    split
    · simp
    · have h1 := ih (rdW l).2.1
      have h2 := rdW_rest l
      dsimp only
      omega
theorem rdB_rest {l : List Nat} (hl : ∀ x ∈ l, x < 256) (h : (rdB l).2.2 = 0) : (rdB l).2.1.length < l.length := by
  obtain ⟨⟨n, k, f⟩, hr⟩ : ∃ x, rd l 0 0 = x := ⟨_, rfl⟩
  have hB : rdB l = if f ≠ 0 then ([], [], f) else if 16 < n then ([], [], 22) else rdWs n (l.drop k) := by unfold rdB; rw [hr]
  rw [hB] at h ⊢
  by_cases hf : f = 0
  · subst hf
    have hb := rd_bytes hl hr
    rw [if_neg (by simp)] at h ⊢
    by_cases h16 : 16 < n
    · rw [if_pos h16] at h; cases h
    · rw [if_neg h16]
      have := rdWs_rest n (l.drop k)
      simp at this
      omega
  · rw [if_pos hf] at h
    exact absurd h hf

/-- the batches read so far -/
structure Gs (w0 : Nat) (W : World) (v : Value) (svs : List Sv) (gs : List (List W3)) : Prop where
  len : svs.length = gs.length
  own : W.ownsRow w0 41 1 v gs.length (kS.cells svs)
  bat : ∀ (i : Nat) sv ws, svs[i]? = some sv → gs[i]? = some ws → sv.2.1 = ws.length ∧ ∃ b, sv.1 = some ⟨b, 0, none⟩ ∧ w0 ≤ b ∧ b < W.heap.size ∧ v.ownBlock ≠ some b ∧ Chk.IsWr W (some ⟨b, 0, none⟩) ws
theorem Gs.keep {w0 R : Nat} {W W' : World} {v : Value} {svs : List Sv} {gs : List (List W3)} (h : Gs w0 W v svs gs) (hk : Keep [R] W W') (hR : R < w0) : Gs w0 W' v svs gs := by
  refine ⟨h.len, hk.own h.own (fun g hg => by have := (h.own.lt g hg).1; simp; omega), fun i sv ws h1 h2 => ?_⟩
  obtain ⟨a1, b, a2, a3, a4, a5, a6⟩ := h.bat i sv ws h1 h2
  refine ⟨a1, b, a2, a3, Nat.lt_of_lt_of_le a4 hk.size, a5, IsWr.keepB a6 (fun b' off' e' hb' => ?_) hk.size⟩
  cases e'
  exact hk.block b hb' (by simp; omega)
theorem Gs.isG {w0 : Nat} {W : World} {v : Value} {svs : List Sv} {gs : List (List W3)} (h : Gs w0 W v svs gs) : ∃ a c, v = .slice a gs.length c ∧ IsG W a gs := by
  have ho : OwnK kS 0 (fun _ => 0) W v svs := by
    refine ⟨?_, fun _ _ => rfl⟩
    have h1 := h.own
    rw [← h.len] at h1
    refine ⟨h1.1, ?_⟩
    rcases h1.2 with h2 | ⟨g, cap, cur, hv, hb, hr⟩
    · exact .inl h2
    · exact .inr ⟨g, cap, cur, hv, Nat.zero_le _, hr⟩
  obtain ⟨a, c, e, hk, _⟩ := ho.form
  refine ⟨a, c, by rw [e, h.len], svs, h.len, hk, fun i sv ws h1 h2 => ?_⟩
  obtain ⟨a1, b, a2, a3, a4, a5, a6⟩ := h.bat i sv ws h1 h2
  exact ⟨a1, by rw [a2]; exact a6⟩
/-- one more -/
theorem Gs.add {w0 : Nat} {W W' : World} {v : Value} {svs : List Sv} {gs : List (List W3)} {o : Obj} (h : Gs w0 W v svs gs) {b c g cap : Nat} {ws : List W3} (hws : Chk.IsWr W (some ⟨b, 0, none⟩) ws) (hb0 : w0 ≤ b) (hb : b < W.heap.size) (hvb : v.ownBlock ≠ some b)
    (hown : W'.ownsRow w0 41 1 (.slice (some ⟨g, 0, none⟩) (gs.length + 1) cap) (gs.length + 1) (kS.cells svs ++ [.slice (some ⟨b, 0, none⟩) ws.length c])) (hgr : (W.alloc o).grownBy W' v.ownBlock) (hat : v.ownBlock = some g ∨ g = W.heap.size + 1) :
    Gs w0 W' (.slice (some ⟨g, 0, none⟩) (gs.length + 1) cap) (svs ++ [(some ⟨b, 0, none⟩, ws.length, c)]) (gs ++ [ws]) := by
  have hsz := hgr.size
  simp at hsz
  have hblk : ∀ b, b < W.heap.size → v.ownBlock ≠ some b → W'.heap[b]? = W.heap[b]? := fun b hb hv => by
    rw [hgr.block b (by simp; omega) (fun e => hv e.symm)]
    exact Below.heap_alloc W o b hb
  have hne : ∀ b, b < W.heap.size → v.ownBlock ≠ some b → (Value.slice (some ⟨g, 0, none⟩) (gs.length + 1) cap).ownBlock ≠ some b := fun b hb hv e => by
    simp [Value.ownBlock] at e
    subst e
    rcases hat with h1 | h1
    · exact hv h1
    · omega
  have hk : ∀ b ws, b < W.heap.size → v.ownBlock ≠ some b → Chk.IsWr W (some ⟨b, 0, none⟩) ws → Chk.IsWr W' (some ⟨b, 0, none⟩) ws := fun b ws hb hv hw => IsWr.keepB hw (fun b' off' e' hb' => by cases e'; exact hblk b hb hv) (by omega)
  refine ⟨by simp [h.len], ?_, fun i sv x h1 h2 => ?_⟩
  · rw [Knd.cells_append]
    simpa [Knd.cells, kS] using hown
  · rcases Nat.lt_trichotomy i gs.length with hi | rfl | hi
    · rw [List.getElem?_append_left (by rw [h.len]; exact hi)] at h1
      rw [List.getElem?_append_left hi] at h2
      obtain ⟨a1, b', a2, a3, a4, a5, a6⟩ := h.bat i sv x h1 h2
      exact ⟨a1, b', a2, a3, by omega, hne b' a4 a5, hk b' x a4 a5 a6⟩
    · rw [← h.len, List.getElem?_append_right (Nat.le_refl _)] at h1
      rw [List.getElem?_append_right (Nat.le_refl _)] at h2
      simp at h1 h2
      subst h1 h2
      exact ⟨rfl, b, rfl, hb0, by omega, hne b hb hvb, hk b ws hb hvb hws⟩
    · rw [List.getElem?_append_right (by omega)] at h2
      cases hd : i - gs.length with
      | zero => omega
      | succ d => rw [hd] at h2; simp at h2

/-- how far the batches are read -/
def Gat (n : Nat) (l1 : List Nat) (gs : List (List W3)) (l : List Nat) : Prop := rdGs n l1 = (gs ++ (rdGs (n - gs.length) l).1, (rdGs (n - gs.length) l).2)
theorem Gat.ok {n : Nat} {l1 : List Nat} {gs : List (List W3)} {l : List Nat} (h : Gat n l1 gs l) (hn : gs.length < n) (h0 : (rdB l).2.2 = 0) : Gat n l1 (gs ++ [(rdB l).1]) (rdB l).2.1 := by
  have hd : n - gs.length = (n - (gs ++ [(rdB l).1]).length) + 1 := by simp; omega
  have hs : rdGs (n - gs.length) l = ((rdB l).1 :: (rdGs (n - (gs ++ [(rdB l).1]).length) (rdB l).2.1).1, (rdGs (n - (gs ++ [(rdB l).1]).length) (rdB l).2.1).2) := by
    rw [hd]
    show (if (rdB l).2.2 ≠ 0 then _ else _) = _
    rw [if_neg (by simpa using h0)]
  unfold Gat at *
  rw [h, hs]
  simp
theorem Gat.err {n : Nat} {l1 : List Nat} {gs : List (List W3)} {l : List Nat} (h : Gat n l1 gs l) (hn : gs.length < n) (h0 : (rdB l).2.2 ≠ 0) : (rdGs n l1).2.2 = (rdB l).2.2 := by
  have hd : n - gs.length = (n - (gs.length + 1)) + 1 := by omega
  have hs : rdGs (n - gs.length) l = ([], [], (rdB l).2.2) := by
    rw [hd]
    show (if (rdB l).2.2 ≠ 0 then _ else _) = _
    rw [if_pos h0]
  unfold Gat at h
  rw [h, hs]
theorem cntW_snoc (gs : List (List W3)) (ws : List W3) : cntW (gs ++ [ws]) = cntW gs + ws.length := by simp [cntW]

/-- what group answers of (l, e) -/
def grp (l : List Nat) (e : Nat) : List (List W3) × List Nat × Nat := if e ≠ 0 then ([], l, e) else if (rd l 0 0).2.2 ≠ 0 then ([], [], (rd l 0 0).2.2) else rdGs (rd l 0 0).1 (l.drop (rd l 0 0).2.1)
def GrIs (w w' : World) (R : Nat) (x : List (List W3) × List Nat × Nat) (v : Value) (n : Int) : Prop := ∃ (l' : List Nat), Rd w' R l' x.2.2 ∧ Keep [R] w w' ∧ (x.2.2 = 0 → l' = x.2.1 ∧ n = (cntW x.1 : Nat) ∧ cntW x.1 ≤ 16000000000000 ∧ ∃ a c, v = .slice a x.1.length c ∧ IsG w' a x.1 ∧ x.1.length ≤ 1000000000000)

set_option maxHeartbeats 2000000 in
theorem group_any (R : Nat) (l : List Nat) (e : Nat) (w : World) (h : Rd w R l e) (h40 : l.length ≤ 1000000000000) :
    Calls Tryd.prog 24 #[.pointer (some ⟨R, 0, none⟩)] w fun r w' => ∃ (v : Value) (n : Int), r = .returned (.tuple #[v, .int .i64 n]) ∧ GrIs w w' R (grp l e) v n := by
  have HR : Hid (Rd w R l e) := h
  have hlt := h.lt
  by_cases he : e = 0
  · subst he
    have HN := number_any R l w h
    obtain ⟨⟨n, k, f⟩, hr⟩ : ∃ x, rd l 0 0 = x := ⟨_, rfl⟩
    have hk := rd_k h.by_ hr
    have hG : grp l 0 = if f ≠ 0 then ([], [], f) else rdGs n (l.drop k) := by unfold grp; rw [hr]; simp
    rw [hr] at HN
    dsimp only at HN
    have HNN : Hid (Calls Tryd.prog 23 #[.pointer (some ⟨R, 0, none⟩)] w fun r w' => r = .returned (.int .u64 (n : Nat)) ∧ Rd w' R (l.drop k) f ∧ Keep [R] w w') := HN
    clear HN h hr
    by_cases hf : f = 0
    · subst hf
      rw [if_neg (by simp)] at hG
      rw [hG]
      obtain ⟨i43, hi, hz0, hz1, hz2⟩ := info_parts infoS
      go_enter Tryd.func24, Tryd.ntmps24
      go_wp2_with (go_at_call 23; refine HNN.out.mono ?_; rintro r w1 ⟨rfl, hr1, hk1⟩; have HP : Hid (Rd w1 R (l.drop k) 0 ∧ Keep [R] w w1) := ⟨hr1, hk1⟩; clear hr1 hk1)
      go_loopw [4, 5, 9] (fun v c i wr => ∃ (svs : List Sv) (gs : List (List W3)) (l' : List Nat), i = .int .u64 (gs.length : Int) ∧ c = .int .i64 (cntW gs : Int) ∧ gs.length ≤ n ∧ gs.length + l'.length ≤ l.length ∧ cntW gs ≤ 16 * gs.length ∧ Hid (Gs w.heap.size wr v svs gs ∧ Rd wr R l' 0 ∧ Keep [R] w wr ∧ Gat n (l.drop k) gs l')) (fun _ _ i _ => n - (intOf i).toNat)
      case atStart => exact ⟨[], [], l.drop k, rfl, by simp [cntW], Nat.zero_le _, by simp, by simp [cntW], ⟨rfl, World.ownsRow_nil _ _ _ _, fun i sv ws h => by simp at h⟩, HP.out.1, HP.out.2, by simp [Gat]⟩
      case round =>
        clear HP
        obtain ⟨svs, gs, l', rfl, rfl, hgn, hgl, hcn, HX⟩ := hrel
        rename World => wr
        obtain ⟨j, hj⟩ : ∃ j, gs.length = j := ⟨_, rfl⟩
        obtain ⟨cn, hcj⟩ : ∃ cn, cntW gs = cn := ⟨_, rfl⟩
        have HJ : Hid (gs.length = j ∧ cntW gs = cn) := ⟨hj, hcj⟩
        rw [hj] at hgn hgl hcn ⊢
        rw [hcj] at hcn ⊢
        clear hj hcj
        by_cases hlt2 : j < n
        · have q2 : (j : Int) < (n : Int) := by omega
          have hB := batch_any R l' wr HX.out.2.1
          have hrest := rdB_rest HX.out.2.1.by_ (l := l')
          have hgo := HX.out.2.2.2.ok (by rw [HJ.out.1]; exact hlt2)
          have hge := HX.out.2.2.2.err (by rw [HJ.out.1]; exact hlt2)
          have HBB : Hid (Calls Tryd.prog 34 #[.pointer (some ⟨R, 0, none⟩)] wr fun r w' => ∃ (v : Value), r = .returned v ∧ BatIs wr w' R (rdB l') v) := hB
          have HGE : Hid ((rdB l').2.2 ≠ 0 → (rdGs n (l.drop k)).2.2 = (rdB l').2.2) := hge
          have HGO : Hid ((rdB l').2.2 = 0 → Gat n (l.drop k) (gs ++ [(rdB l').1]) (rdB l').2.1) := hgo
          clear hB hgo hge
          obtain ⟨⟨ws, lr, f⟩, hrb⟩ : ∃ x, rdB l' = x := ⟨_, rfl⟩
          rw [hrb] at HBB HGE HGO hrest
          dsimp only at HGE HGO hrest
          clear hrb
          by_cases hf : f = 0
          · subst hf
            have hrl := hrest rfl
            have HGO' : Hid (Gat n (l.drop k) (gs ++ [ws]) lr) := HGO.out rfl
            clear hrest HGO HGE
            go_wp2_with (first
              | (go_at_call 34; refine HBB.out.mono ?_; rintro r w2 ⟨v2, rfl, l2, hr2, hk2, hb2⟩; try dsimp only at hr2; try dsimp only at hb2; obtain ⟨hl2, b, c, rfl, hbb, hbs, hws, h16⟩ := hb2 rfl; obtain rfl := hl2.symm; have HB2 : Hid (Rd w2 R lr 0 ∧ Keep [R] w w2 ∧ Chk.IsWr w2 (some ⟨b, 0, none⟩) ws ∧ Gs w.heap.size w2 _ svs gs) := ⟨hr2, HX.out.2.2.1.trans hk2, hws, HX.out.1.keep hk2 hlt⟩; have d1 := hr2.c1; have hs2 := hk2.size; have hs0 := HX.out.2.2.1.size; clear hr2 hk2 hb2 hws; try dsimp only at d1; try dsimp only at h16; try dsimp only)
              | (at_builtin; refine wpList_app _ (by rfl) (.tmp 18) (.tmp 20) 42 (by rfl) w.heap.size 41 i43 _ 1 24 undG hi hz0 hz1 hz2 rfl (by omega) u4 j (kS.cells svs) (by rfl) (by rw [← HJ.out.1]; exact HB2.out.2.2.2.own.alloc _) ⟨w2.heap.size, 0, none⟩ 1 1 [.slice (some ⟨b, 0, none⟩) ws.length c] (by rfl) (by rfl) (World.news_of_block (heap_alloc_new _ _)) (by intro u hu; simp at hu; subst hu; rfl) (by intro _; omega) (by unfold maxLen; omega) (by omega) (by simp; omega) (w2.heap.size + 1) (by simp) ?_; intro g3 c3 w3 hown3 hgr3 hat3 hlt3; have HG3 : Hid (Gs w.heap.size w3 (.slice (some ⟨g3, 0, none⟩) (j + 1) c3) (svs ++ [(some ⟨b, 0, none⟩, ws.length, c)]) (gs ++ [ws]) ∧ Rd w3 R lr 0 ∧ Keep [R] w w3) := ⟨(by have hh := HB2.out.2.2.2.add (ws := ws) (b := b) (c := c) (g := g3) (cap := c3) HB2.out.2.2.1 (by omega) hbs (fun e => by have := (HX.out.1.own.lt _ e).2; omega) (by rw [HJ.out.1]; exact hown3) hgr3 hat3; rw [HJ.out.1] at hh; exact hh), (HB2.out.1.below ((Below.refl _ _).alloc (Nat.le_refl _) _)).others (Keep.grown hgr3) (fun g hg => by have := (HB2.out.2.2.2.own.lt g (by simpa using hg)).1; omega), (HB2.out.2.1.later (Keep.alloc [] w2 _) (by simp)).later (Keep.grown hgr3) (fun g hg => .inr (by have := (HB2.out.2.2.2.own.lt g (by simpa using hg)).1; omega))⟩; clear hown3 hgr3 hat3 hlt3))
            go_roundw
            case rel => exact ⟨svs ++ [(some ⟨b, 0, none⟩, ws.length, c)], gs ++ [ws], lr, by rw [List.length_append, HJ.out.1]; go_num, by rw [cntW_snoc, HJ.out.2]; go_num, by rw [List.length_append, HJ.out.1]; simp; omega, by rw [List.length_append, HJ.out.1]; simp; omega, by rw [cntW_snoc, HJ.out.2, List.length_append, HJ.out.1]; simp; omega, HG3.out.1, HG3.out.2.1, HG3.out.2.2, HGO'.out⟩
            case measure => simp [intOf]; omega
          · have q3 : ¬ (f : Int) = 0 := by omega
            have q4 : ((f : Int) != 0) = true := by simp; omega
            have HEE : Hid ((rdGs n (l.drop k)).2.2 = f) := HGE.out hf
            clear hrest
            go_wp2_with (go_at_call 34; refine HBB.out.mono ?_; rintro r w2 ⟨v2, rfl, l2, hr2, hk2, _⟩; have HB2 : Hid (Rd w2 R l2 f ∧ Keep [R] w w2) := ⟨hr2, HX.out.2.2.1.trans hk2⟩; have d1 := hr2.c1; clear hr2 hk2; dsimp only at d1)
            go_ret2
            exact ⟨_, _, rfl, l2, by rw [HEE.out]; exact HB2.out.1, HB2.out.2, fun h => absurd (HEE.out.symm.trans h) hf⟩
        · obtain rfl : j = n := by omega
          have q2 : ¬ (j : Int) < (j : Int) := by omega
          go_wp2
          go_ret2
          have hg := HX.out.2.2.2
          unfold Gat at hg
          rw [HJ.out.1, Nat.sub_self] at hg
          have e2 : rdGs j (l.drop k) = (gs, l', 0) := by rw [hg]; simp [rdGs]
          rw [e2]
          obtain ⟨a, c, ev, hig⟩ := HX.out.1.isG
          exact ⟨_, _, rfl, l', HX.out.2.1, HX.out.2.2.1, fun _ => ⟨rfl, by rw [HJ.out.2], by rw [HJ.out.2]; omega, a, c, ev, hig, by rw [HJ.out.1]; omega⟩⟩
    · rw [if_pos hf] at hG
      rw [hG]
      obtain rfl : n = 0 := (hk.2.1 hf).1
      go_enter Tryd.func24, Tryd.ntmps24
      go_wp2_with (go_at_call 23; refine HNN.out.mono ?_; rintro r w1 ⟨rfl, hr1, hk1⟩; have HP : Hid (Rd w1 R (l.drop k) f ∧ Keep [R] w w1) := ⟨hr1, hk1⟩; clear hr1 hk1)
      go_loopw [4, 5, 9] (fun v c i wr => v = .slice none 0 0 ∧ c = .int .i64 0 ∧ i = .int .u64 0 ∧ wr = w1) (fun _ _ _ _ => 0)
      case atStart => exact ⟨rfl, rfl, rfl, rfl⟩
      case round =>
        obtain ⟨rfl, rfl, rfl, rfl⟩ := hrel
        go_wp2
        go_ret2
        exact ⟨_, _, rfl, l.drop k, HP.out.1, HP.out.2, fun h => absurd h hf⟩
  · have hG : grp l e = ([], l, e) := by unfold grp; rw [if_pos he]
    rw [hG]
    clear h
    go_enter Tryd.func24, Tryd.ntmps24
    go_wp2_with (go_at_call 23; refine (number_err R l e w HR.out he).mono ?_; rintro r w1 ⟨rfl, hw1⟩; obtain rfl := hw1.symm)
    go_loopw [4, 5, 9] (fun v c i wr => v = .slice none 0 0 ∧ c = .int .i64 0 ∧ i = .int .u64 0 ∧ wr = w) (fun _ _ _ _ => 0)
    case atStart => exact ⟨rfl, rfl, rfl, rfl⟩
    case round =>
      obtain ⟨rfl, rfl, rfl, rfl⟩ := hrel
      go_wp2
      go_ret2
      exact ⟨_, _, rfl, l, HR.out, Keep.refl _ _, fun h => absurd h he⟩

end Lgg
end Go.Proofs.YtcmbogogakdeoaaDoor
