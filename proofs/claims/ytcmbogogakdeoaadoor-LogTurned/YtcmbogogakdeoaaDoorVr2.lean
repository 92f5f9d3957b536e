import Derived.Test.YtcmbogogakdeoaaDoorVr1
import Derived.Test.YtcmbogogakdeoaaDoorLa2
namespace Go.Proofs.YtcmbogogakdeoaaDoor
namespace Lgr
open Go.RowKit CMath Byt Cod Lg Lga Laws
set_option linter.unusedVariables false
set_option linter.unusedSimpArgs false
set_option maxRecDepth 20000

/-- what readPiece answers -/
def PcAns (w : World) (b : List Nat) (n : Nat) (begun : Bool) (e : Ending) (w' : World) : Prop := ∃ (v : Value) (en o : Bool), e = .returned (.tuple #[v, .bool en, .bool o]) ∧
  (o = true → (if en = true then Lg.Ends begun (512 - n % 512) (b.drop n) else Lg.On begun (512 - n % 512) (b.drop n)) ∧ ∃ a c, v = .slice a (Lg.part (b.drop n)).length c ∧ IsB w a (Lg.part (b.drop n)) ∧ (a = none → c = 0)) ∧
  (o = false → ¬ Lg.Ends begun (512 - n % 512) (b.drop n) ∧ ¬ Lg.On begun (512 - n % 512) (b.drop n)) ∧ Below w.heap.size w w'
theorem PcAns.no {w w' : World} {b : List Nat} {n : Nat} {begun : Bool} (h1 : ¬ Lg.Ends begun (512 - n % 512) (b.drop n)) (h2 : ¬ Lg.On begun (512 - n % 512) (b.drop n)) (hb : Below w.heap.size w w') : PcAns w b n begun (.returned (.tuple #[.slice none 0 0, .bool false, .bool false])) w' :=
  ⟨_, _, _, rfl, by simp, fun _ => ⟨h1, h2⟩, hb⟩
theorem sums_iff {d : List Nat} (hd : ∀ x ∈ d, x < 256) (h7 : 7 ≤ d.length) : Sums d ↔ val (d.take 4) = crc ((d.drop 4).take (hl d + 3)) := by
  have h4 : (d.take 4).length = 4 := by simp; omega
  have hb : ∀ x ∈ d.take 4, x < 256 := fun x hx => hd x (List.mem_of_mem_take hx)
  have hc : crc ((d.drop 4).take (hl d + 3)) < 4294967296 := crc_lt _ (fun x hx => hd x (List.mem_of_mem_drop (List.mem_of_mem_take hx)))
  unfold Sums
  constructor
  · intro h; rw [h, four_val hc]
  · intro h; rw [← h, val_four h4 hb]
theorem or16 {x y : Nat} (hx : x < 256) (hy : y < 256) : bits .or .i64 (x : Int) ((y : Int) * 256) = ((x + 256 * y : Nat) : Int) := by
  have o1 : x ||| y * 256 = x + 256 * y := or8 hx hy
  rw [show (y : Int) * 256 = ((y * 256 : Nat) : Int) by omega]
  show IntKind.i64.wrap ((BitVec.ofInt 64 (x : Int) ||| BitVec.ofInt 64 ((y * 256 : Nat) : Int)).toNat : Int) = _
  rw [BitVec.toNat_or, BitVec.ofInt_natCast, BitVec.ofInt_natCast, BitVec.toNat_ofNat, BitVec.toNat_ofNat, Nat.mod_eq_of_lt (by omega), Nat.mod_eq_of_lt (by omega), o1, IntKind.wrap_i64]
  omega

set_option maxHeartbeats 2000000 in
theorem readPiece_any (cap L n : Nat) (l : List Nat) (w : World) (a : Option Addr) (begun : Bool) (ha : IsB w a l) (hna : a = none → cap = 0) (ht : Tab w) (hL : L = l.length) (hcap : L ≤ cap) (hmx : L ≤ 4611686018427387904) (hn : n ≤ 2305843009213693952) (h8 : 8 ≤ 512 - n % 512) :
    Calls Tryd.prog 27 #[.slice a L cap, .int .i64 (n : Int), .bool begun] w fun e w' => PcAns w l n begun e w' := by
  have HLL : Hid (L = l.length) := hL
  have HT : Hid (Tab w) := ht
  clear ht
  by_cases h7 : n + 7 ≤ L
  · have hne : l ≠ [] := by intro e; rw [e] at hL; simp at hL; omega
    obtain ⟨b, off, rfl, hr⟩ := ha.1 hne
    have HI : Hid (IsB w (some ⟨b, off, none⟩) l) := ha
    have q0 : ¬ (L : Int) - 7 < (n : Int) := by omega
    have q00 : (n : Int) ≤ (L : Int) - 7 := by omega
    have hg : ∀ i, i < 7 → ∃ x, l[n + i]? = some x ∧ x < 256 ∧ w.cell? ⟨b, off + n + i, none⟩ = some (.int .u8 (x : Int)) := fun i hi => by
      obtain ⟨x, hx⟩ : ∃ x, l[n + i]? = some x := ⟨_, List.getElem?_eq_getElem (by omega)⟩
      refine ⟨x, hx, ha.2 x (List.mem_of_getElem? hx), ?_⟩
      have := hr.2 (n + i) x hx
      rw [← Nat.add_assoc] at this
      exact this
    obtain ⟨x4, g4, b4, c4⟩ := hg 4 (by omega)
    obtain ⟨x5, g5, b5, c5⟩ := hg 5 (by omega)
    obtain ⟨x6, g6, b6, c6⟩ := hg 6 (by omega)
    have hdl : (l.drop n).length = L - n := by simp; omega
    have e4 : (l.drop n).getD 4 0 = x4 := by simp [List.getD_eq_getElem?_getD, List.getElem?_drop, g4]
    have e5 : (l.drop n).getD 5 0 = x5 := by simp [List.getD_eq_getElem?_getD, List.getElem?_drop, g5]
    have e6 : (l.drop n).getD 6 0 = x6 := by simp [List.getD_eq_getElem?_getD, List.getElem?_drop, g6]
    obtain ⟨H, hH⟩ : ∃ H, x4 + 256 * x5 = H := ⟨_, rfl⟩
    have ehl : hl (l.drop n) = H := by unfold hl; rw [e4, e5, hH]
    have HHL : Hid (hl (l.drop n) = H) := ehl
    have ho := or16 b4 b5
    rw [hH] at ho
    have hHb : H < 65536 := by omega
    have hby : ∀ x ∈ l.drop n, x < 256 := byte_drop ha.2 n
    have hsm := sums_iff hby (by omega)
    rw [ehl] at hsm
    have HSM : Hid (Sums (l.drop n) ↔ val ((l.drop n).take 4) = crc (((l.drop n).drop 4).take (H + 3))) := hsm
    have hEn : Lg.Ends begun (512 - n % 512) (l.drop n) ↔ (7 + H ≤ L - n ∧ x6 = kd begun true ∧ Sums (l.drop n) ∧ H ≤ 512 - n % 512 - 7 ∧ (begun = true → 0 < H)) := by unfold Lg.Ends; rw [ehl, hdl, e6]
    have hOn : Lg.On begun (512 - n % 512) (l.drop n) ↔ (7 + H ≤ L - n ∧ x6 = kd begun false ∧ Sums (l.drop n) ∧ H = 512 - n % 512 - 7) := by unfold Lg.On; rw [ehl, hdl, e6]
    have HEn : Hid (Lg.Ends begun (512 - n % 512) (l.drop n) ↔ (7 + H ≤ L - n ∧ x6 = kd begun true ∧ Sums (l.drop n) ∧ H ≤ 512 - n % 512 - 7 ∧ (begun = true → 0 < H))) := hEn
    have HOn : Hid (Lg.On begun (512 - n % 512) (l.drop n) ↔ (7 + H ≤ L - n ∧ x6 = kd begun false ∧ Sums (l.drop n) ∧ H = 512 - n % 512 - 7)) := hOn
    clear hsm hEn hOn hg hr hne g4 g5 g6 e4 e5 e6 hH ehl hby hdl ha hL
    have p1 : (n : Int) ≤ (cap : Int) := by omega
    have p2 : n < cap := by omega
    have p3 : (n : Int) + 7 ≤ (cap : Int) := by omega
    have p4 : (n : Int) ≤ (n : Int) + 7 := by omega
    have p5 : ¬ cap - n = 0 := by omega
    by_cases hk : x6 = kd begun true ∨ x6 = kd begun false
    · obtain ⟨B, hB⟩ : ∃ B, 512 - n % 512 = B := ⟨_, rfl⟩
      have hBL := fun W => blockLeft_any n (n : Int) W rfl (by omega)
      rw [hB] at hBL HEn HOn h8
      have HBB : Hid (∀ W, Calls Tryd.prog 20 #[.int .i64 (n : Int)] W fun e w' => e = .returned (.int .i64 (B : Int)) ∧ w' = W) := hBL
      obtain ⟨M, hM⟩ : ∃ M : Nat, (B : Int) - 7 = (M : Int) := ⟨B - 7, by omega⟩
      have hM2 : B - 7 = M := by omega
      rw [hM2] at HEn HOn
      have HB0 : Hid (512 - n % 512 = B) := hB
      have hMb : M ≤ 505 := by omega
      have hBb : B ≤ 512 := by omega
      clear hBL hB
      obtain ⟨en, hen⟩ : ∃ en : Bool, x6 = kd begun en := by
        rcases hk with h | h
        · exact ⟨true, h⟩
        · exact ⟨false, h⟩
      subst hen
      have HRT : Hid (∀ W, Calls Tryd.prog 35 #[.int .i64 (H : Int), .int .i64 (M : Int), .bool begun, .bool en] W fun e w' => e = .returned (.bool (right H M begun en)) ∧ w' = W) := fun W => right_any H M begun en W
      have kE : ∀ f, kd begun en = kd begun f ↔ en = f := fun f => ⟨fun h => (kd_inj h).2, fun h => by rw [h]⟩
      rw [kE] at HEn HOn
      by_cases hfit : n + 7 + H ≤ L
      · have f1 : ¬ (L : Int) < (n : Int) + 7 + (H : Int) := by omega
        have f2 : (n : Int) + 7 + (H : Int) ≤ (cap : Int) := by omega
        have f3 : (n : Int) + 4 ≤ (n : Int) + 7 + (H : Int) := by omega
        have f4 : (n : Int) + 7 ≤ (n : Int) + 7 + (H : Int) := by omega
        have hrg : right H M begun en = true ↔ (if en = true then H ≤ M ∧ (begun = true → 0 < H) else H = M) := by
          cases en <;> cases begun <;> simp [right]
        have HRG : Hid (right H M begun en = true ↔ (if en = true then H ≤ M ∧ (begun = true → 0 < H) else H = M)) := hrg
        clear hrg kE hk
        have hd4 : ((l.drop n).drop 4) = l.drop (n + 4) := by rw [List.drop_drop]
        have hI4 : ∀ W, Below w.heap.size w W → IsB W (some ⟨b, off + (n + 4), none⟩) (((l.drop n).drop 4).take (H + 3)) := fun W hW => by rw [hd4]; exact (isB_drop (HI.out.below hW) (n + 4)).take _
        have hln4 : (((l.drop n).drop 4).take (H + 3)).length = H + 3 := by simp; have := HLL.out; omega
        have hI0 : ∀ W, Below w.heap.size w W → BRow W b (off + n) ((l.drop n).take 7) := fun W hW => by
          obtain ⟨b', off', e', hr⟩ := (HI.out.below hW).1 (by intro e; have := HLL.out; rw [e] at this; simp at this; omega)
          cases e'
          exact (hr.drop n).take 7
        have hln0 : ((l.drop n).take 7).length = 7 := by simp; have := HLL.out; omega
        have hby0 : ∀ x ∈ (l.drop n).take 7, x < 256 := fun x hx => HI.out.2 x (List.mem_of_mem_drop (List.mem_of_mem_take hx))
        have ht4 : ((l.drop n).take 7).take 4 = (l.drop n).take 4 := by rw [List.take_take]; rfl
        generalize hCR : crc (((l.drop n).drop 4).take (H + 3)) = CR at *
        generalize hVL : val ((l.drop n).take 4) = VL at *
        have HSU : Hid (∀ W, Below w.heap.size w W → Calls Tryd.prog 31 #[.slice (some ⟨b, off + (n + 4), none⟩) (n + 7 + H - (n + 4)) (cap - (n + 4))] W fun e w' => e = .returned (.int .u32 (CR : Int)) ∧ w' = W) := fun W hW => by rw [← hCR, show n + 7 + H - (n + 4) = H + 3 by omega]; exact sum_any _ _ _ _ W (hI4 W hW) (HT.out.below hW HT.out.lt) (by omega) hln4.symm
        have HLS : Hid (∀ W, Below w.heap.size w W → Calls Tryd.prog 36 #[.slice (some ⟨b, off + n, none⟩) 7 (cap - n)] W fun e w' => e = .returned (.int .u32 (VL : Int)) ∧ ∃ n, w' = W.drewN n) := fun W hW => by have h := laidSum_any b (off + n) (cap - n) _ W (hI0 W hW) hby0 hln0; rw [ht4, hVL] at h; exact h
        clear hd4 hI4 hln4 hI0 hln0 hby0 ht4 hCR hVL
        by_cases hrt : right H M begun en = true
        · rw [hrt] at HRT
          have hsum := HRG.out.1 hrt
          by_cases hsm : VL = CR
          · subst hsm
            have hS : Sums (l.drop n) := HSM.out.2 rfl
            have HSS : Hid (Sums (l.drop n) ∧ (if en = true then H ≤ M ∧ (begun = true → 0 < H) else H = M)) := ⟨hS, hsum⟩
            clear hS hsum hrt HSM HRG
            have HPL : Hid ((Lg.part (l.drop n)).length = H) := by
              have h1 : (if en = true then Lg.Ends begun B (l.drop n) else Lg.On begun B (l.drop n)) := by
                cases en
                · exact HOn.out.2 ⟨by omega, (by first | rfl | trivial), HSS.out.1, HSS.out.2⟩
                · exact HEn.out.2 ⟨by omega, (by first | rfl | trivial), HSS.out.1, HSS.out.2.1, HSS.out.2.2⟩
              show (Lg.part (l.drop n)).length = H
              have hh := HHL.out
              unfold Lg.part
              rw [hh]
              simp
              have := HLL.out
              omega
            have HPN : Hid (IsB w (some ⟨b, off + (n + 7), none⟩) (Lg.part (l.drop n))) := by
              show IsB w _ _
              unfold Lg.part
              rw [List.drop_drop]
              exact (isB_drop HI.out (n + 7)).take _
            by_cases hcz : cap = n + 7
            · have hH0 : H = 0 := by omega
              have HPZ : Hid (IsB w (some ⟨b, off, none⟩) (Lg.part (l.drop n))) := by
                have h0 : Lg.part (l.drop n) = [] := List.eq_nil_of_length_eq_zero (by rw [HPL.out, hH0])
                show IsB w _ _
                rw [h0]
                exact IsB.nil _ _
              have z1 : cap - (n + 7) = 0 := by omega
              clear hcz hH0
              cases en with
              | true =>
                go_enter Tryd.func27, Tryd.ntmps27
                go_wp2
                go_quiet (fail)
                go_wp2_with (first
                  | (go_at_call 22; refine (kindOf_any _ _ _).mono ?_; rintro e w3 ⟨rfl, hw3⟩; obtain rfl := hw3)
                  | (go_at_call 20; refine (HBB.out _).mono ?_; rintro e w3 ⟨rfl, hw3⟩; obtain rfl := hw3)
                  | (go_at_call 35; refine (HRT.out _).mono ?_; rintro e w3 ⟨rfl, hw3⟩; obtain rfl := hw3)
                  | (go_at_call 31; refine (HSU.out _ (below_drewN (Below.refl _ _) _)).mono ?_; rintro e w3 ⟨rfl, hw3⟩; obtain rfl := hw3)
                  | (go_at_call 36; refine (HLS.out _ (below_drewN (Below.refl _ _) _)).mono ?_; rintro e w3 ⟨rfl, d3, rfl⟩))
                go_ret3
                exact ⟨_, _, _, rfl, fun _ => ⟨by rw [HB0.out]; exact HEn.out.2 ⟨by omega, (by first | rfl | trivial), HSS.out.1, HSS.out.2.1, HSS.out.2.2⟩, some ⟨b, off, none⟩, _, by rw [HPL.out, show n + 7 + H - (n + 7) = H by omega]; rfl, HPZ.out, by simp⟩, by simp, below_drewN (Below.refl _ _) _⟩
              | false =>
                have k8 : (((kd begun false : Nat) : Int) == ((kd begun true : Nat) : Int)) = false := by cases begun <;> decide
                have k9 : ¬ ((kd begun false : Nat) : Int) = ((kd begun true : Nat) : Int) := by cases begun <;> decide
                go_enter Tryd.func27, Tryd.ntmps27
                go_wp2
                go_quiet (fail)
                go_wp2_with (first
                  | (go_at_call 22; refine (kindOf_any _ _ _).mono ?_; rintro e w3 ⟨rfl, hw3⟩; obtain rfl := hw3)
                  | (go_at_call 20; refine (HBB.out _).mono ?_; rintro e w3 ⟨rfl, hw3⟩; obtain rfl := hw3)
                  | (go_at_call 35; refine (HRT.out _).mono ?_; rintro e w3 ⟨rfl, hw3⟩; obtain rfl := hw3)
                  | (go_at_call 31; refine (HSU.out _ (below_drewN (Below.refl _ _) _)).mono ?_; rintro e w3 ⟨rfl, hw3⟩; obtain rfl := hw3)
                  | (go_at_call 36; refine (HLS.out _ (below_drewN (Below.refl _ _) _)).mono ?_; rintro e w3 ⟨rfl, d3, rfl⟩))
                go_ret3
                exact ⟨_, _, _, rfl, fun _ => ⟨by rw [HB0.out]; exact HOn.out.2 ⟨by omega, (by first | rfl | trivial), HSS.out.1, HSS.out.2⟩, some ⟨b, off, none⟩, _, by rw [HPL.out, show n + 7 + H - (n + 7) = H by omega]; rfl, HPZ.out, by simp⟩, by simp, below_drewN (Below.refl _ _) _⟩
            · have z1 : ¬ cap - (n + 7) = 0 := by omega
              have z2 : n + 7 < cap := by omega
              have z3 : (n : Int) + 7 < (cap : Int) := by omega
              cases en with
              | true =>
                go_enter Tryd.func27, Tryd.ntmps27
                go_wp2
                go_quiet (fail)
                go_wp2_with (first
                  | (go_at_call 22; refine (kindOf_any _ _ _).mono ?_; rintro e w3 ⟨rfl, hw3⟩; obtain rfl := hw3)
                  | (go_at_call 20; refine (HBB.out _).mono ?_; rintro e w3 ⟨rfl, hw3⟩; obtain rfl := hw3)
                  | (go_at_call 35; refine (HRT.out _).mono ?_; rintro e w3 ⟨rfl, hw3⟩; obtain rfl := hw3)
                  | (go_at_call 31; refine (HSU.out _ (below_drewN (Below.refl _ _) _)).mono ?_; rintro e w3 ⟨rfl, hw3⟩; obtain rfl := hw3)
                  | (go_at_call 36; refine (HLS.out _ (below_drewN (Below.refl _ _) _)).mono ?_; rintro e w3 ⟨rfl, d3, rfl⟩))
                go_ret3
                exact ⟨_, _, _, rfl, fun _ => ⟨by rw [HB0.out]; exact HEn.out.2 ⟨by omega, (by first | rfl | trivial), HSS.out.1, HSS.out.2.1, HSS.out.2.2⟩, some ⟨b, off + (n + 7), none⟩, _, by rw [HPL.out, show n + 7 + H - (n + 7) = H by omega]; rfl, HPN.out, by simp⟩, by simp, below_drewN (Below.refl _ _) _⟩
              | false =>
                have k8 : (((kd begun false : Nat) : Int) == ((kd begun true : Nat) : Int)) = false := by cases begun <;> decide
                have k9 : ¬ ((kd begun false : Nat) : Int) = ((kd begun true : Nat) : Int) := by cases begun <;> decide
                go_enter Tryd.func27, Tryd.ntmps27
                go_wp2
                go_quiet (fail)
                go_wp2_with (first
                  | (go_at_call 22; refine (kindOf_any _ _ _).mono ?_; rintro e w3 ⟨rfl, hw3⟩; obtain rfl := hw3)
                  | (go_at_call 20; refine (HBB.out _).mono ?_; rintro e w3 ⟨rfl, hw3⟩; obtain rfl := hw3)
                  | (go_at_call 35; refine (HRT.out _).mono ?_; rintro e w3 ⟨rfl, hw3⟩; obtain rfl := hw3)
                  | (go_at_call 31; refine (HSU.out _ (below_drewN (Below.refl _ _) _)).mono ?_; rintro e w3 ⟨rfl, hw3⟩; obtain rfl := hw3)
                  | (go_at_call 36; refine (HLS.out _ (below_drewN (Below.refl _ _) _)).mono ?_; rintro e w3 ⟨rfl, d3, rfl⟩))
                go_ret3
                exact ⟨_, _, _, rfl, fun _ => ⟨by rw [HB0.out]; exact HOn.out.2 ⟨by omega, (by first | rfl | trivial), HSS.out.1, HSS.out.2⟩, some ⟨b, off + (n + 7), none⟩, _, by rw [HPL.out, show n + 7 + H - (n + 7) = H by omega]; rfl, HPN.out, by simp⟩, by simp, below_drewN (Below.refl _ _) _⟩
          · have s1 : ((CR : Int) != (VL : Int)) = true := by simp; omega
            have s2 : ¬ (CR : Int) = (VL : Int) := by omega
            have HNS : Hid (¬ Sums (l.drop n)) := fun h => hsm (HSM.out.1 h)
            clear hsum hrt HSM HRG hsm
            cases en with
            | true =>
              go_enter Tryd.func27, Tryd.ntmps27
              go_wp2
              go_quiet (fail)
              go_wp2_with (first
                | (go_at_call 22; refine (kindOf_any _ _ _).mono ?_; rintro e w3 ⟨rfl, hw3⟩; obtain rfl := hw3)
                | (go_at_call 20; refine (HBB.out _).mono ?_; rintro e w3 ⟨rfl, hw3⟩; obtain rfl := hw3)
                | (go_at_call 35; refine (HRT.out _).mono ?_; rintro e w3 ⟨rfl, hw3⟩; obtain rfl := hw3)
                | (go_at_call 31; refine (HSU.out _ (below_drewN (Below.refl _ _) _)).mono ?_; rintro e w3 ⟨rfl, hw3⟩; obtain rfl := hw3)
                | (go_at_call 36; refine (HLS.out _ (below_drewN (Below.refl _ _) _)).mono ?_; rintro e w3 ⟨rfl, d3, rfl⟩))
              go_ret3
              exact PcAns.no (fun h => HNS.out (HEn.out.1 (by rw [HB0.out] at h; exact h)).2.2.1) (fun h => HNS.out (HOn.out.1 (by rw [HB0.out] at h; exact h)).2.2.1) (below_drewN (Below.refl _ _) _)
            | false =>
              have k8 : (((kd begun false : Nat) : Int) == ((kd begun true : Nat) : Int)) = false := by cases begun <;> decide
              have k9 : ¬ ((kd begun false : Nat) : Int) = ((kd begun true : Nat) : Int) := by cases begun <;> decide
              go_enter Tryd.func27, Tryd.ntmps27
              go_wp2
              go_quiet (fail)
              go_wp2_with (first
                | (go_at_call 22; refine (kindOf_any _ _ _).mono ?_; rintro e w3 ⟨rfl, hw3⟩; obtain rfl := hw3)
                | (go_at_call 20; refine (HBB.out _).mono ?_; rintro e w3 ⟨rfl, hw3⟩; obtain rfl := hw3)
                | (go_at_call 35; refine (HRT.out _).mono ?_; rintro e w3 ⟨rfl, hw3⟩; obtain rfl := hw3)
                | (go_at_call 31; refine (HSU.out _ (below_drewN (Below.refl _ _) _)).mono ?_; rintro e w3 ⟨rfl, hw3⟩; obtain rfl := hw3)
                | (go_at_call 36; refine (HLS.out _ (below_drewN (Below.refl _ _) _)).mono ?_; rintro e w3 ⟨rfl, d3, rfl⟩))
              go_ret3
              exact PcAns.no (fun h => HNS.out (HEn.out.1 (by rw [HB0.out] at h; exact h)).2.2.1) (fun h => HNS.out (HOn.out.1 (by rw [HB0.out] at h; exact h)).2.2.1) (below_drewN (Below.refl _ _) _)
        · have hrf : right H M begun en = false := by simpa using hrt
          rw [hrf] at HRT
          have HNR : Hid (¬ (if en = true then H ≤ M ∧ (begun = true → 0 < H) else H = M)) := fun h => hrt (HRG.out.2 h)
          clear hrt hrf HSM HRG
          cases en with
          | true =>
            go_enter Tryd.func27, Tryd.ntmps27
            go_wp2
            go_quiet (fail)
            go_wp2_with (first
              | (go_at_call 22; refine (kindOf_any _ _ _).mono ?_; rintro e w3 ⟨rfl, hw3⟩; obtain rfl := hw3)
              | (go_at_call 20; refine (HBB.out _).mono ?_; rintro e w3 ⟨rfl, hw3⟩; obtain rfl := hw3)
              | (go_at_call 35; refine (HRT.out _).mono ?_; rintro e w3 ⟨rfl, hw3⟩; obtain rfl := hw3)
              | (go_at_call 31; refine (HSU.out _ (below_drewN (Below.refl _ _) _)).mono ?_; rintro e w3 ⟨rfl, hw3⟩; obtain rfl := hw3)
              | (go_at_call 36; refine (HLS.out _ (below_drewN (Below.refl _ _) _)).mono ?_; rintro e w3 ⟨rfl, d3, rfl⟩))
            go_ret3
            exact PcAns.no (fun h => by rw [HB0.out] at h; have h2 := HEn.out.1 h; exact HNR.out ⟨h2.2.2.2.1, h2.2.2.2.2⟩) (fun h => by rw [HB0.out] at h; have h2 := HOn.out.1 h; cases h2.2.1) (below_drewN (Below.refl _ _) _)
          | false =>
            have k8 : (((kd begun false : Nat) : Int) == ((kd begun true : Nat) : Int)) = false := by cases begun <;> decide
            have k9 : ¬ ((kd begun false : Nat) : Int) = ((kd begun true : Nat) : Int) := by cases begun <;> decide
            go_enter Tryd.func27, Tryd.ntmps27
            go_wp2
            go_quiet (fail)
            go_wp2_with (first
              | (go_at_call 22; refine (kindOf_any _ _ _).mono ?_; rintro e w3 ⟨rfl, hw3⟩; obtain rfl := hw3)
              | (go_at_call 20; refine (HBB.out _).mono ?_; rintro e w3 ⟨rfl, hw3⟩; obtain rfl := hw3)
              | (go_at_call 35; refine (HRT.out _).mono ?_; rintro e w3 ⟨rfl, hw3⟩; obtain rfl := hw3)
              | (go_at_call 31; refine (HSU.out _ (below_drewN (Below.refl _ _) _)).mono ?_; rintro e w3 ⟨rfl, hw3⟩; obtain rfl := hw3)
              | (go_at_call 36; refine (HLS.out _ (below_drewN (Below.refl _ _) _)).mono ?_; rintro e w3 ⟨rfl, d3, rfl⟩))
            go_ret3
            exact PcAns.no (fun h => by rw [HB0.out] at h; have h2 := HEn.out.1 h; cases h2.2.1) (fun h => by rw [HB0.out] at h; have h2 := HOn.out.1 h; exact HNR.out h2.2.2.2) (below_drewN (Below.refl _ _) _)
      · have f1 : (L : Int) < (n : Int) + 7 + (H : Int) := by omega
        clear kE hk
        have HSU : Hid True := trivial
        have HLS : Hid True := trivial
        cases en with
        | true =>
          go_enter Tryd.func27, Tryd.ntmps27
          go_wp2
          go_quiet (fail)
          go_wp2_with (first
            | (go_at_call 22; refine (kindOf_any _ _ _).mono ?_; rintro e w3 ⟨rfl, hw3⟩; obtain rfl := hw3)
            | (go_at_call 20; refine (HBB.out _).mono ?_; rintro e w3 ⟨rfl, hw3⟩; obtain rfl := hw3)
            | (go_at_call 35; refine (HRT.out _).mono ?_; rintro e w3 ⟨rfl, hw3⟩; obtain rfl := hw3)
            | (go_at_call 31; refine (HSU.out _ (below_drewN (Below.refl _ _) _)).mono ?_; rintro e w3 ⟨rfl, hw3⟩; obtain rfl := hw3)
            | (go_at_call 36; refine (HLS.out _ (below_drewN (Below.refl _ _) _)).mono ?_; rintro e w3 ⟨rfl, d3, rfl⟩))
          go_ret3
          exact PcAns.no (fun h => by rw [HB0.out] at h; have h2 := HEn.out.1 h; omega) (fun h => by rw [HB0.out] at h; have h2 := HOn.out.1 h; omega) (below_drewN (Below.refl _ _) _)
        | false =>
          have k8 : (((kd begun false : Nat) : Int) == ((kd begun true : Nat) : Int)) = false := by cases begun <;> decide
          have k9 : ¬ ((kd begun false : Nat) : Int) = ((kd begun true : Nat) : Int) := by cases begun <;> decide
          go_enter Tryd.func27, Tryd.ntmps27
          go_wp2
          go_quiet (fail)
          go_wp2_with (first
            | (go_at_call 22; refine (kindOf_any _ _ _).mono ?_; rintro e w3 ⟨rfl, hw3⟩; obtain rfl := hw3)
            | (go_at_call 20; refine (HBB.out _).mono ?_; rintro e w3 ⟨rfl, hw3⟩; obtain rfl := hw3)
            | (go_at_call 35; refine (HRT.out _).mono ?_; rintro e w3 ⟨rfl, hw3⟩; obtain rfl := hw3)
            | (go_at_call 31; refine (HSU.out _ (below_drewN (Below.refl _ _) _)).mono ?_; rintro e w3 ⟨rfl, hw3⟩; obtain rfl := hw3)
            | (go_at_call 36; refine (HLS.out _ (below_drewN (Below.refl _ _) _)).mono ?_; rintro e w3 ⟨rfl, d3, rfl⟩))
          go_ret3
          exact PcAns.no (fun h => by rw [HB0.out] at h; have h2 := HEn.out.1 h; omega) (fun h => by rw [HB0.out] at h; have h2 := HOn.out.1 h; omega) (below_drewN (Below.refl _ _) _)
    · have k1 : ¬ x6 = kd begun true := fun h => hk (.inl h)
      have k2 : ¬ x6 = kd begun false := fun h => hk (.inr h)
      have k3 : ((x6 : Int) == ((kd begun true : Nat) : Int)) = false := by simp; omega
      have k4 : ((x6 : Int) != ((kd begun false : Nat) : Int)) = true := by simp; omega
      have k5 : ¬ (x6 : Int) = ((kd begun true : Nat) : Int) := by omega
      have k6 : ¬ (x6 : Int) = ((kd begun false : Nat) : Int) := by omega
      go_enter Tryd.func27, Tryd.ntmps27
      go_wp2
      go_quiet (fail)
      go_wp2_with (go_at_call 22; refine (kindOf_any _ _ _).mono ?_; rintro e w3 ⟨rfl, hw3⟩; obtain rfl := hw3)
      go_ret3
      exact PcAns.no (fun h => k1 (HEn.out.1 h).2.1) (fun h => k2 (HOn.out.1 h).2.1) (below_drewN (Below.refl _ _) _)
  · have q0 : (L : Int) - 7 < (n : Int) := by omega
    have hdl : (l.drop n).length < 7 := by simp; omega
    clear hL
    go_enter Tryd.func27, Tryd.ntmps27
    go_wp2
    go_ret3
    exact PcAns.no (fun h => by have := h.1; omega) (fun h => by have := h.1; omega) (Below.refl _ _)

end Lgr
end Go.Proofs.YtcmbogogakdeoaaDoor
