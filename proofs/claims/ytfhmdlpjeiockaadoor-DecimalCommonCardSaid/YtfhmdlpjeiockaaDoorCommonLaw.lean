/-
  The walk of the law DecimalCommon.
-/
import Derived.Test.YtfhmdlpjeiockaaDoorTools
import Derived.Test.YtfhmdlpjeiockaaDoorGcd
import Derived.Test.YtfhmdlpjeiockaaDoorRefMul
namespace Go.Proofs.YtfhmdlpjeiockaaDoor
open Go.RowKit

set_option maxHeartbeats 6400000 in
set_option maxRecDepth 100000 in
theorem common_law (a1 : Option Addr) (l1 c1 : Nat) (z1 : List Int) (a2 : Option Addr) (l2 c2 : Nat) (z2 : List Int) (w : World) (hs : Std w) (r1 : IsRow .u8 w a1 l1 c1 z1) (r2 : IsRow .u8 w a2 l2 c2 z2) :
    Calls Tryd.prog 4 #[.slice a1 l1 c1, .slice a2 l2 c2] w fun e w' => e = .returned (.bool true) ∧ Below w.heap.size w w' := by
  have HS := Lib.hid hs
  have R1 := Lib.hid r1
  have R2 := Lib.hid r2
  have hb1 := r1.len_bd
  have hb2 := r2.len_bd
  clear hs r1 r2
  by_cases h1 : l1 ≤ 40
  · by_cases h2 : l2 ≤ 40
    · go_enter Tryd.func4, Tryd.ntmps4
      go_wp2_with fail
      refine (known_any _ HS.out).mono ?_
      rintro e w1 ⟨rfl, h1⟩
      have B1 := Lib.hid h1
      clear h1
      go_wp2_with fail
      refine (make_any a1 l1 c1 z1 _ (R1.out.below B1.out)).mono ?_
      rintro e w2 ⟨a, rfl, hn2, h2⟩
      have B2 := Lib.hid (B1.out.trans (h2.mono B1.out.size))
      have HN2 := Lib.hid hn2
      clear h2 hn2
      go_wp2_with fail
      refine (make_any a2 l2 c2 z2 _ (R2.out.below B2.out)).mono ?_
      rintro e w3 ⟨b, rfl, hn3, h3⟩
      have B3 := Lib.hid (B2.out.trans (h3.mono B2.out.size))
      have HN3 := Lib.hid hn3
      clear h3 hn3
      have SA := Lib.hid (size120 HN2.out)
      have SB := Lib.hid (size120 HN3.out)
      have ia := is0 a
      have ib := is0 b
      have HG := Lib.hid (fun wx => gcdR_any a b wx (Nat.le_trans SA.out (by decide)) (Nat.le_trans SB.out (by decide)))
      have HN := Lib.hid (fun wx hx => gcdN_any a b wx hx (Nat.le_trans SA.out (by decide)) (Nat.le_trans SB.out (by decide)))
      by_cases hab : a = 0 ∨ b = 0
      · have HL := Lib.hid (fun wx => lcm_zero a b wx hab)
        obtain ⟨d, hd⟩ : ∃ d, d = Nat.gcd a b := ⟨_, rfl⟩
        rw [← hd] at HG HN
        have e0 : ((str a).toList == [48]) = true ∨ (((str a).toList == [48]) = false ∧ ((str b).toList == [48]) = true) := by
          by_cases ha : a = 0
          · exact .inl (by rw [ia]; simpa using ha)
          · exact .inr ⟨by rw [ia]; simpa using ha, by rw [ib]; simpa using (hab.resolve_left ha)⟩
        clear ia ib hab hd
        rcases e0 with e0 | ⟨e0, e1⟩
        all_goals
          go_wp2_with fail
          refine (HG.out _).mono ?_
          rintro e w4 ⟨rfl, h4⟩
          have B4 := Lib.hid (B3.out.trans (h4.mono B3.out.size))
          clear h4
          go_wp2_with fail
          refine (HN.out _ (HS.out.below B4.out)).mono ?_
          rintro e w5 ⟨rfl, h5⟩
          have B5 := Lib.hid (B4.out.trans (h5.mono B4.out.size))
          clear h5
          go_wp2_with fail
          refine (HL.out _).mono ?_
          rintro e w6 ⟨rfl, h6⟩
          have B6 := Lib.hid (B5.out.trans (h6.mono B5.out.size))
          clear h6
          go_wp2_with fail
          go_ret
          exact ⟨rfl, B6.out⟩
      · have ha0 : 0 < a := by omega
        have hb0 : 0 < b := by omega
        have e0 : ((str a).toList == [48]) = false := by rw [ia]; simp; omega
        have e1 : ((str b).toList == [48]) = false := by rw [ib]; simp; omega
        have hd0 : 0 < Nat.gcd a b := Nat.gcd_pos_of_pos_left b ha0
        have hda : Nat.gcd a b ∣ a := Nat.gcd_dvd_left a b
        have hS : (str (a * b)).size ≤ 240 := size_mul SA.out SB.out (by decide)
        have HL := Lib.hid (fun wx hx => lcm_any a b wx hx (Nat.le_trans SA.out (by decide)) (Nat.le_trans SB.out (by decide)) ha0 hb0)
        rw [Nat.div_mul_right_comm hda] at HL
        have HDM := Lib.hid (fun wx => divR_any (a * b) (Nat.gcd a b) wx (Nat.le_trans hS (by decide)) (Nat.le_trans (size_mono (Nat.gcd_le_left b ha0)) (Nat.le_trans SA.out (by decide))) hd0)
        have HMU := Lib.hid (fun wx => mulR_any a b wx (Nat.le_trans SA.out (by decide)) (Nat.le_trans SB.out (by decide)))
        obtain ⟨d, hd⟩ : ∃ d, d = Nat.gcd a b := ⟨_, rfl⟩
        rw [← hd] at HG HN HL HDM
        obtain ⟨P, hP⟩ : ∃ P, P = a * b := ⟨_, rfl⟩
        rw [← hP] at HL HDM HMU
        clear ia ib hab hd hP hd0 hda hS ha0 hb0
        go_wp2_with fail
        refine (HG.out _).mono ?_
        rintro e w4 ⟨rfl, h4⟩
        have B4 := Lib.hid (B3.out.trans (h4.mono B3.out.size))
        clear h4
        go_wp2_with fail
        refine (HMU.out _).mono ?_
        rintro e w5 ⟨rfl, h5⟩
        have B5 := Lib.hid (B4.out.trans (h5.mono B4.out.size))
        clear h5
        go_wp2_with fail
        refine (HDM.out _).mono ?_
        rintro e w6 ⟨rfl, h6⟩
        have B6 := Lib.hid (B5.out.trans (h6.mono B5.out.size))
        clear h6
        go_wp2_with fail
        refine (HN.out _ (HS.out.below B6.out)).mono ?_
        rintro e w7 ⟨rfl, h7⟩
        have B7 := Lib.hid (B6.out.trans (h7.mono B6.out.size))
        clear h7
        go_wp2_with fail
        refine (HL.out _ (HS.out.below B7.out)).mono ?_
        rintro e w8 ⟨rfl, h8⟩
        have B8 := Lib.hid (B7.out.trans (h8.mono B7.out.size))
        clear h8
        go_wp2_with fail
        go_ret
        exact ⟨rfl, B8.out⟩
    · have h2' : 40 < l2 := by omega
      go_enter Tryd.func4, Tryd.ntmps4
      go_wp2_with fail
      refine (known_any _ HS.out).mono ?_
      rintro e w1 ⟨rfl, h1⟩
      have B1 := Lib.hid h1
      clear h1
      go_wp2_with fail
      refine (known_any _ (HS.out.below B1.out)).mono ?_
      rintro e w2 ⟨rfl, h2⟩
      have B2 := Lib.hid (B1.out.trans (h2.mono B1.out.size))
      clear h2
      go_wp2_with fail
      go_ret
      exact ⟨rfl, B2.out⟩
  · have h1' : 40 < l1 := by omega
    go_enter Tryd.func4, Tryd.ntmps4
    go_wp2_with fail
    refine (known_any _ HS.out).mono ?_
    rintro e w1 ⟨rfl, h1⟩
    have B1 := Lib.hid h1
    clear h1
    go_wp2_with fail
    refine (known_any _ (HS.out.below B1.out)).mono ?_
    rintro e w2 ⟨rfl, h2⟩
    have B2 := Lib.hid (B1.out.trans (h2.mono B1.out.size))
    clear h2
    go_wp2_with fail
    go_ret
    exact ⟨rfl, B2.out⟩
end Go.Proofs.YtfhmdlpjeiockaaDoor
