import Derived.Test.YtodgomgacgoliaaLi6
namespace Go.Proofs.Ytodgomgacgoliaa
namespace Lin
open Go.RowKit Go.Shelf Laws Irw
set_option linter.unusedVariables false
set_option maxRecDepth 1000000

theorem own_le {w : World} {base n c : Nat} {a : Option Addr} {xs : List Value} {e : TypeId} {s : Nat} (h : w.ownsRow base e s (.slice a n c) n xs) : n ≤ c := by
  rcases h.2 with ⟨h1, h2⟩ | ⟨g, cap, cur, hv, _, _, hc, _⟩
  · omega
  · simp only [Value.slice.injEq] at hv
    obtain ⟨_, _, rfl⟩ := hv
    exact hc
theorem below_drewN {B : Nat} {a w : World} (h : Below B a w) (n : Nat) : Below B a (w.drewN n) := h.trans ⟨rfl, rfl, rfl, Nat.le_refl _, fun _ _ => rfl⟩

def firstLoop : Code → Option Code
  | .loop c => some c
  | .seq a b => match firstLoop a with
    | some c => some c
    | none => firstLoop b
  | .block _ c => firstLoop c
  | .scope c => firstLoop c
  | .cond _ a b => match firstLoop a with
    | some c => some c
    | none => firstLoop b
  | _ => none
noncomputable def inner : Code := (((Try.f7.body.bind firstLoop).bind firstLoop).getD .skip)

set_option maxHeartbeats 0 in
theorem inner_loop (w w5 : World) (T : Nat → Nat) (p : Nat) (aw : Option Addr) (cw : Nat) (az : Option Addr) (cs : Nat) (LS SS : List Int) (k1 : Nat) (a9 : Option Addr) (c9 : Nat) (Q0 : Exit → Act → World → Prop) (c0 c1 c3 c6 c7 c8 c10 c11 c13 c14 c15 c16 c17 c18 c19 c20 c21 c22 c23 c24 c25 c26 c27 c28 c29 c30 c31 c32 c33 c34 c35 c36 c37 c38 c39 c40 c41 c42 c43 c44 c45 c46 c47 c48 c49 c50 c51 c52 c53 c54 c55 c56 c57 c58 c59 c60 c61 c62 c63 c64 c65 c66 c67 c68 c69 c70 c71 c72 c73 c74 c75 c76 c77 c78 c79 c80 c81 c82 c83 c84 c85 c86 c87 c88 c89 c90 c91 c92 c93 c94 c95 c96 c97 c98 c99 c100 c101 c102 c103 c104 c105 c106 c107 c108 c109 c110 c111 c112 c113 c114 c115 c116 c117 c118 c119 c120 c121 c122 c123 c124 c125 c126 : Value) (u2 u127 u128 u129 u130 u131 u132 u133 u134 u135 u136 u137 u138 u139 u140 u141 u142 u143 u144 u145 u146 u147 u148 u149 u150 u151 u152 u153 u154 u155 u156 u157 u158 u159 u160 u161 u162 u163 u164 u165 u166 u167 u168 u169 u170 u171 u172 u173 u174 u175 u176 : Value)
    (HF : Hid (LF w T w5 p aw cw az cs LS SS k1)) (HI9 : Hid (IsI w5 a9 LS)) (HC9 : Hid (LS.length ≤ c9)) (hle : LS.length ≤ 601)
    (hexit : ∀ (v2 v12 v127 v128 v129 v130 v131 v132 v133 v134 v135 v136 v137 v138 v139 v140 v141 v142 v143 v144 v145 v146 v147 v148 v149 v150 v151 v152 v153 v154 v155 v156 v157 v158 v159 v160 v161 v162 v163 v164 v165 v166 v167 v168 v169 v170 v171 v172 v173 v174 v175 v176 : Value) (wr : World), Hid (LF w T wr p aw cw az cs LS SS k1) → Q0 (.exit 2) ⟨List.toArray (c0 :: c1 :: v2 :: c3 :: (.slice aw LS.length cw) :: (.slice az SS.length cs) :: c6 :: c7 :: c8 :: (.slice a9 LS.length c9) :: c10 :: c11 :: v12 :: c13 :: c14 :: c15 :: c16 :: c17 :: c18 :: c19 :: c20 :: c21 :: c22 :: c23 :: c24 :: c25 :: c26 :: c27 :: c28 :: c29 :: c30 :: c31 :: c32 :: c33 :: c34 :: c35 :: c36 :: c37 :: c38 :: c39 :: c40 :: c41 :: c42 :: c43 :: c44 :: c45 :: c46 :: c47 :: c48 :: c49 :: c50 :: c51 :: c52 :: c53 :: c54 :: c55 :: c56 :: c57 :: c58 :: c59 :: c60 :: c61 :: c62 :: c63 :: c64 :: c65 :: c66 :: c67 :: c68 :: c69 :: c70 :: c71 :: c72 :: c73 :: c74 :: c75 :: c76 :: c77 :: c78 :: c79 :: c80 :: c81 :: c82 :: c83 :: c84 :: c85 :: c86 :: c87 :: c88 :: c89 :: c90 :: c91 :: c92 :: c93 :: c94 :: c95 :: c96 :: c97 :: c98 :: c99 :: c100 :: c101 :: c102 :: c103 :: c104 :: c105 :: c106 :: c107 :: c108 :: c109 :: c110 :: c111 :: c112 :: c113 :: c114 :: c115 :: c116 :: c117 :: c118 :: c119 :: c120 :: c121 :: c122 :: c123 :: c124 :: c125 :: c126 :: v127 :: v128 :: v129 :: v130 :: v131 :: v132 :: v133 :: v134 :: v135 :: v136 :: v137 :: v138 :: v139 :: v140 :: v141 :: v142 :: v143 :: v144 :: v145 :: v146 :: v147 :: v148 :: v149 :: v150 :: v151 :: v152 :: v153 :: v154 :: v155 :: v156 :: v157 :: v158 :: v159 :: v160 :: v161 :: v162 :: v163 :: v164 :: v165 :: v166 :: v167 :: v168 :: v169 :: v170 :: v171 :: v172 :: v173 :: v174 :: v175 :: v176 :: []), []⟩ wr) :
    Code.wp Try.prog (Code.loop inner) Q0 ⟨List.toArray (c0 :: c1 :: u2 :: c3 :: (.slice aw LS.length cw) :: (.slice az SS.length cs) :: c6 :: c7 :: c8 :: (.slice a9 LS.length c9) :: c10 :: c11 :: (.int .i64 0) :: c13 :: c14 :: c15 :: c16 :: c17 :: c18 :: c19 :: c20 :: c21 :: c22 :: c23 :: c24 :: c25 :: c26 :: c27 :: c28 :: c29 :: c30 :: c31 :: c32 :: c33 :: c34 :: c35 :: c36 :: c37 :: c38 :: c39 :: c40 :: c41 :: c42 :: c43 :: c44 :: c45 :: c46 :: c47 :: c48 :: c49 :: c50 :: c51 :: c52 :: c53 :: c54 :: c55 :: c56 :: c57 :: c58 :: c59 :: c60 :: c61 :: c62 :: c63 :: c64 :: c65 :: c66 :: c67 :: c68 :: c69 :: c70 :: c71 :: c72 :: c73 :: c74 :: c75 :: c76 :: c77 :: c78 :: c79 :: c80 :: c81 :: c82 :: c83 :: c84 :: c85 :: c86 :: c87 :: c88 :: c89 :: c90 :: c91 :: c92 :: c93 :: c94 :: c95 :: c96 :: c97 :: c98 :: c99 :: c100 :: c101 :: c102 :: c103 :: c104 :: c105 :: c106 :: c107 :: c108 :: c109 :: c110 :: c111 :: c112 :: c113 :: c114 :: c115 :: c116 :: c117 :: c118 :: c119 :: c120 :: c121 :: c122 :: c123 :: c124 :: c125 :: c126 :: u127 :: u128 :: u129 :: u130 :: u131 :: u132 :: u133 :: u134 :: u135 :: u136 :: u137 :: u138 :: u139 :: u140 :: u141 :: u142 :: u143 :: u144 :: u145 :: u146 :: u147 :: u148 :: u149 :: u150 :: u151 :: u152 :: u153 :: u154 :: u155 :: u156 :: u157 :: u158 :: u159 :: u160 :: u161 :: u162 :: u163 :: u164 :: u165 :: u166 :: u167 :: u168 :: u169 :: u170 :: u171 :: u172 :: u173 :: u174 :: u175 :: u176 :: []), []⟩ w5 := by
  have HSL : Hid (SS.length = LS.length) := HF.out.si.len
  have HEX : Hid (∀ (v2 v12 v127 v128 v129 v130 v131 v132 v133 v134 v135 v136 v137 v138 v139 v140 v141 v142 v143 v144 v145 v146 v147 v148 v149 v150 v151 v152 v153 v154 v155 v156 v157 v158 v159 v160 v161 v162 v163 v164 v165 v166 v167 v168 v169 v170 v171 v172 v173 v174 v175 v176 : Value) (wr : World), Hid (LF w T wr p aw cw az cs LS SS k1) → Q0 (.exit 2) ⟨List.toArray (c0 :: c1 :: v2 :: c3 :: (.slice aw LS.length cw) :: (.slice az SS.length cs) :: c6 :: c7 :: c8 :: (.slice a9 LS.length c9) :: c10 :: c11 :: v12 :: c13 :: c14 :: c15 :: c16 :: c17 :: c18 :: c19 :: c20 :: c21 :: c22 :: c23 :: c24 :: c25 :: c26 :: c27 :: c28 :: c29 :: c30 :: c31 :: c32 :: c33 :: c34 :: c35 :: c36 :: c37 :: c38 :: c39 :: c40 :: c41 :: c42 :: c43 :: c44 :: c45 :: c46 :: c47 :: c48 :: c49 :: c50 :: c51 :: c52 :: c53 :: c54 :: c55 :: c56 :: c57 :: c58 :: c59 :: c60 :: c61 :: c62 :: c63 :: c64 :: c65 :: c66 :: c67 :: c68 :: c69 :: c70 :: c71 :: c72 :: c73 :: c74 :: c75 :: c76 :: c77 :: c78 :: c79 :: c80 :: c81 :: c82 :: c83 :: c84 :: c85 :: c86 :: c87 :: c88 :: c89 :: c90 :: c91 :: c92 :: c93 :: c94 :: c95 :: c96 :: c97 :: c98 :: c99 :: c100 :: c101 :: c102 :: c103 :: c104 :: c105 :: c106 :: c107 :: c108 :: c109 :: c110 :: c111 :: c112 :: c113 :: c114 :: c115 :: c116 :: c117 :: c118 :: c119 :: c120 :: c121 :: c122 :: c123 :: c124 :: c125 :: c126 :: v127 :: v128 :: v129 :: v130 :: v131 :: v132 :: v133 :: v134 :: v135 :: v136 :: v137 :: v138 :: v139 :: v140 :: v141 :: v142 :: v143 :: v144 :: v145 :: v146 :: v147 :: v148 :: v149 :: v150 :: v151 :: v152 :: v153 :: v154 :: v155 :: v156 :: v157 :: v158 :: v159 :: v160 :: v161 :: v162 :: v163 :: v164 :: v165 :: v166 :: v167 :: v168 :: v169 :: v170 :: v171 :: v172 :: v173 :: v174 :: v175 :: v176 :: []), []⟩ wr) := hexit
  clear hexit
  conv => arg 2; arg 1; whnf
  by_cases h0 : LS.length = 0
  · obtain rfl : LS = [] := List.eq_nil_of_length_eq_zero h0
    obtain rfl : SS = [] := List.eq_nil_of_length_eq_zero (by rw [HSL.out]; rfl)
    clear h0 HSL
    go_loopw [12] (fun j wr => j = .int .i64 0 ∧ Hid (LF w T wr p aw cw az cs [] [] k1)) (fun _ _ => 0)
    case atStart => exact ⟨rfl, HF⟩
    case round =>
      clear HF
      obtain ⟨rfl, HF⟩ := hrel
      go_wp2
      exact HEX.out _ _ _ _ _ _ _ _ _ _ _ _ _ _ _ _ _ _ _ _ _ _ _ _ _ _ _ _ _ _ _ _ _ _ _ _ _ _ _ _ _ _ _ _ _ _ _ _ _ _ _ _ _ HF
  · obtain ⟨b9, o9, rfl, hr9⟩ := HI9.out.at_ (by omega)
    have HR9 : Hid (IRow w5 b9 o9 LS) := hr9
    clear hr9 HI9
    have d1 : (0 : Int) < (LS.length : Int) := by omega
    go_loopw [12] (fun j wr => ∃ j' : Nat, j = .int .i64 j' ∧ j' ≤ LS.length ∧ Hid (LF w T wr p aw cw az cs LS SS k1) ∧ Hid (IRow wr b9 o9 LS)) (fun j _ => LS.length - (intOf j).toNat)
    case atStart => exact ⟨0, rfl, Nat.zero_le _, HF, HR9⟩
    case round =>
      clear HF HR9
      obtain ⟨j, rfl, hj, HF, HR9⟩ := hrel
      by_cases hlt : j < LS.length
      · have hq : (j : Int) < (LS.length : Int) := by omega
        have hqs : (j : Int) < (SS.length : Int) := by rw [HSL.out]; exact hq
        have hqc : (j : Int) ≤ (c9 : Int) := by have := HC9.out; omega
        have HP1 : Hid (∀ m, Calls Try.prog 27 #[.slice (some ⟨b9, o9, none⟩) j c9, .int .i64 (LS.getD j 0)] (wr.drewN m) fun e w' => e = .returned (.int .i64 (-1)) ∧ w' = wr.drewN m) := fun m => place_eq _ _ _ (LS.take j) _ _ _ ((IsI.of HR9.out).take j) (by simp; omega) (by simp; omega) (plc_ahead HF.out.nd hlt)
        have HP2 : Hid (∀ m, Calls Try.prog 27 #[.slice aw LS.length cw, .int .i64 (LS.getD j 0)] (wr.drewN m) fun e w' => e = .returned (.int .i64 j) ∧ w' = wr.drewN m) := fun m => place_eq _ _ _ LS _ _ _ HF.out.who.isI.1 (by omega) rfl (plc_at HF.out.nd hlt)
        have cx : wr.cell? ⟨b9, o9 + j, none⟩ = some (.int .i64 (LS.getD j 0)) := HR9.out.cell hlt
        obtain ⟨bz, oz, hz, hrz⟩ := HF.out.since.isI.1.at_ (by rw [HSL.out]; omega)
        have cz : wr.cell? ⟨bz, oz + j, none⟩ = some (.int .i64 (SS.getD j 0)) := hrz.cell (by rw [HSL.out]; omega)
        subst hz
        by_cases hj0 : j = 0
        · subst hj0
          rw [Nat.add_zero] at cx cz
          generalize LS.getD 0 0 = x at HP1 HP2 cx
          generalize SS.getD 0 0 = z at cz
          go_wp2
          go_quiet (first | (go_at_call_of 27 c9; exact Calls.quiet_of_same (HP1.out _)) | (go_at_call_of 27 x; exact Calls.quiet_of_same (HP2.out _)))
          go_wp2
          go_roundw
          case rel => exact ⟨1, by go_num, by omega, HF.out.below (below_drewN (Below.refl _ _) _), HR9.out.below (below_drewN (Below.refl _ _) _) HR9.out.1⟩
          case measure => simp [intOf]; omega
        · have hj1 : 0 < (j : Int) := by omega
          have hjn : 0 < j := by omega
          have hd1 : decide ((0 : Int) < (j : Int)) = true := decide_eq_true hj1
          have hd2 : decide (0 < j) = true := decide_eq_true hjn
          have hw1 : IntKind.i64.wrap ((j : Int) - 1) = ((j - 1 : Nat) : Int) := by rw [IntWalk.i64_in _ (by omega)]; omega
          have hq1 : ((j - 1 : Nat) : Int) < (LS.length : Int) := by omega
          have hqs1 : ((j - 1 : Nat) : Int) < (SS.length : Int) := by rw [HSL.out]; exact hq1
          have HP3 : Hid (∀ m, Calls Try.prog 27 #[.slice aw LS.length cw, .int .i64 (LS.getD (j - 1) 0)] (wr.drewN m) fun e w' => e = .returned (.int .i64 ((j - 1 : Nat) : Int)) ∧ w' = wr.drewN m) := fun m => place_eq _ _ _ LS _ _ _ HF.out.who.isI.1 (by omega) rfl (plc_at HF.out.nd (by omega))
          have cy : wr.cell? ⟨b9, o9 + (j - 1), none⟩ = some (.int .i64 (LS.getD (j - 1) 0)) := HR9.out.cell (by omega)
          have cz1 : wr.cell? ⟨bz, oz + (j - 1), none⟩ = some (.int .i64 (SS.getD (j - 1) 0)) := hrz.cell (by rw [HSL.out]; omega)
          have hss : ¬ SS.getD j 0 < SS.getD (j - 1) 0 := HF.out.si.rise (by omega) hlt
          have HNE : Hid (LS.getD j 0 ≠ LS.getD (j - 1) 0) := fun e => by
            have h1 := plc_at HF.out.nd hlt
            have h2 := plc_at HF.out.nd (show j - 1 < LS.length by omega)
            rw [e, h2] at h1
            omega
          generalize LS.getD j 0 = x at *
          generalize LS.getD (j - 1) 0 = y at *
          generalize SS.getD j 0 = z at *
          generalize SS.getD (j - 1) 0 = z1 at *
          generalize j - 1 = j1 at *
          go_wp2
          go_quiet (first | (go_at_call_of 27 c9; exact Calls.quiet_of_same (HP1.out _)) | (go_at_call_of 27 y; exact Calls.quiet_of_same (HP3.out _)) | (go_at_call_of 27 x; exact Calls.quiet_of_same (HP2.out _)))
          go_wp2
          go_roundw
          case rel => exact ⟨j + 1, by go_num, by omega, HF.out.below (below_drewN (Below.refl _ _) _), HR9.out.below (below_drewN (Below.refl _ _) _) HR9.out.1⟩
          case measure => simp [intOf]; omega
      · have dge : ¬ (j : Int) < (LS.length : Int) := by omega
        go_wp2
        exact HEX.out _ _ _ _ _ _ _ _ _ _ _ _ _ _ _ _ _ _ _ _ _ _ _ _ _ _ _ _ _ _ _ _ _ _ _ _ _ _ _ _ _ _ _ _ _ _ _ _ _ _ _ _ _ HF

end Lin
end Go.Proofs.Ytodgomgacgoliaa
