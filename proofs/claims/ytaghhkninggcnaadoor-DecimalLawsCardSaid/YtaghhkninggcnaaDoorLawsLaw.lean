/-
  The walk of the law DecimalLaws.
-/
import Derived.Test.YtaghhkninggcnaaDoorTools
namespace Go.Proofs.YtaghhkninggcnaaDoor
open Go.RowKit

set_option maxHeartbeats 6400000 in
set_option maxRecDepth 100000 in
theorem laws_law (a1 : Option Addr) (l1 c1 : Nat) (z1 : List Int) (a2 : Option Addr) (l2 c2 : Nat) (z2 : List Int) (a3 : Option Addr) (l3 c3 : Nat) (z3 : List Int) (w : World) (hs : Std w) (r1 : IsRow .u8 w a1 l1 c1 z1) (r2 : IsRow .u8 w a2 l2 c2 z2) (r3 : IsRow .u8 w a3 l3 c3 z3) :
    Calls Tryd.prog 11 #[.slice a1 l1 c1, .slice a2 l2 c2, .slice a3 l3 c3] w fun e w' => e = .returned (.bool true) ∧ Below w.heap.size w w' := by
  have HS := Lib.hid hs
  have R1 := Lib.hid r1
  have R2 := Lib.hid r2
  have R3 := Lib.hid r3
  by_cases hfew : l1 ≤ 120 ∧ l2 ≤ 120 ∧ l3 ≤ 120
  · have HF := Lib.hid (fun wx => few_yes a1 a2 a3 l1 l2 l3 c1 c2 c3 wx hfew.1 hfew.2.1 hfew.2.2)
    clear hs r1 r2 r3 hfew
    go_enter Tryd.func11, Tryd.ntmps11
    go_wp2_with fail
    refine (known_any _ HS.out).mono ?_
    rintro e w1 ⟨rfl, h1⟩
    have B1 := Lib.hid h1
    clear h1
    go_wp2_with fail
    refine (HF.out _).mono ?_
    rintro e w2 ⟨rfl, rfl⟩
    go_wp2_with fail
    refine (make_any a1 l1 c1 z1 _ (R1.out.below B1.out)).mono ?_
    rintro e w3 ⟨a, rfl, hn3, h3⟩
    have B3 := Lib.hid (B1.out.trans (h3.mono B1.out.size))
    have HN3 := Lib.hid hn3
    clear h3 hn3
    go_wp2_with fail
    refine (make_any a2 l2 c2 z2 _ (R2.out.below B3.out)).mono ?_
    rintro e w4 ⟨b, rfl, hn4, h4⟩
    have B4 := Lib.hid (B3.out.trans (h4.mono B3.out.size))
    have HN4 := Lib.hid hn4
    clear h4 hn4
    go_wp2_with fail
    refine (make_any a3 l3 c3 z3 _ (R3.out.below B4.out)).mono ?_
    rintro e w5 ⟨c, rfl, hn5, h5⟩
    have B5 := Lib.hid (B4.out.trans (h5.mono B4.out.size))
    have HN5 := Lib.hid hn5
    clear h5 hn5
    have SA := size120 HN3.out
    have SB := size120 HN4.out
    have SC := size120 HN5.out
    obtain ⟨ab, Eab, Sab⟩ : ∃ x : Nat, a + b = x ∧ (str x).size ≤ 450000 := ⟨_, rfl, Nat.le_trans (size_add SA SB) (by decide)⟩
    obtain ⟨bc, Ebc, Sbc⟩ : ∃ x : Nat, b + c = x ∧ (str x).size ≤ 450000 := ⟨_, rfl, Nat.le_trans (size_add SB SC) (by decide)⟩
    obtain ⟨abc, Eabc, Sabc⟩ : ∃ x : Nat, a + b + c = x ∧ (str x).size ≤ 450000 := ⟨_, rfl, Nat.le_trans (size_add (size_add SA SB) SC) (by decide)⟩
    obtain ⟨m, Em, Sm⟩ : ∃ x : Nat, a * b = x ∧ (str x).size ≤ 450000 := ⟨_, rfl, Nat.le_trans (size_mul SA SB (by decide)) (by decide)⟩
    obtain ⟨n, En, Sn⟩ : ∃ x : Nat, b * c = x ∧ (str x).size ≤ 450000 := ⟨_, rfl, Nat.le_trans (size_mul SB SC (by decide)) (by decide)⟩
    obtain ⟨mc, Emc, Smc⟩ : ∃ x : Nat, a * b * c = x ∧ (str x).size ≤ 450000 := ⟨_, rfl, Nat.le_trans (size_mul (size_mul SA SB (by decide)) SC (by decide)) (by decide)⟩
    obtain ⟨k, Ek, Sk⟩ : ∃ x : Nat, a * c = x ∧ (str x).size ≤ 450000 := ⟨_, rfl, Nat.le_trans (size_mul SA SC (by decide)) (by decide)⟩
    obtain ⟨d, Ed, Sd⟩ : ∃ x : Nat, a * (b + c) = x ∧ (str x).size ≤ 450000 := ⟨_, rfl, Nat.le_trans (size_mul SA (size_add SB SC) (by decide)) (by decide)⟩
    have ZA := Lib.hid (Nat.le_trans SA (show 120 ≤ 450000 by decide))
    have ZB := Lib.hid (Nat.le_trans SB (show 120 ≤ 450000 by decide))
    have ZC := Lib.hid (Nat.le_trans SC (show 120 ≤ 450000 by decide))
    have Zab := Lib.hid Sab
    have Zbc := Lib.hid Sbc
    have Zabc := Lib.hid Sabc
    have Zm := Lib.hid Sm
    have Zn := Lib.hid Sn
    have Zmc := Lib.hid Smc
    have Zk := Lib.hid Sk
    have Zd := Lib.hid Sd
    have E1 := Lib.hid (show a + b = ab from Eab)
    have E2 := Lib.hid (show b + a = ab from by rw [← Eab]; exact Nat.add_comm _ _)
    have E3 := Lib.hid (show ab + c = abc from by rw [← Eab, ← Eabc])
    have E4 := Lib.hid (show b + c = bc from Ebc)
    have E5 := Lib.hid (show a + bc = abc from by rw [← Ebc, ← Eabc]; exact (Nat.add_assoc _ _ _).symm)
    have E6 := Lib.hid (show a * b = m from Em)
    have E7 := Lib.hid (show b * a = m from by rw [← Em]; exact Nat.mul_comm _ _)
    have E8 := Lib.hid (show m * c = mc from by rw [← Em, ← Emc])
    have E9 := Lib.hid (show b * c = n from En)
    have E10 := Lib.hid (show a * n = mc from by rw [← En, ← Emc]; exact (Nat.mul_assoc _ _ _).symm)
    have E11 := Lib.hid (show ab = a + b from Eab.symm)
    have E12 := Lib.hid (show a * bc = d from by rw [← Ebc, ← Ed])
    have E13 := Lib.hid (show a * c = k from Ek)
    have E14 := Lib.hid (show m + k = d from by rw [← Em, ← Ek, ← Ed]; exact (Nat.mul_add _ _ _).symm)
    clear SA SB SC Eab Sab Ebc Sbc Eabc Sabc Em Sm En Sn Emc Smc Ek Sk Ed Sd
    go_wp2_with fail
    refine (addTo E1.out _ (HS.out.below B5.out) ZA.out ZB.out).mono ?_
    rintro e w6 ⟨rfl, h6⟩
    have B6 := Lib.hid (B5.out.trans (h6.mono B5.out.size))
    clear h6
    go_wp2_with fail
    refine (addTo E2.out _ (HS.out.below B6.out) ZB.out ZA.out).mono ?_
    rintro e w7 ⟨rfl, h7⟩
    have B7 := Lib.hid (B6.out.trans (h7.mono B6.out.size))
    clear h7
    go_wp2_with fail
    refine (addTo E1.out _ (HS.out.below B7.out) ZA.out ZB.out).mono ?_
    rintro e w8 ⟨rfl, h8⟩
    have B8 := Lib.hid (B7.out.trans (h8.mono B7.out.size))
    clear h8
    go_wp2_with fail
    refine (addTo E3.out _ (HS.out.below B8.out) Zab.out ZC.out).mono ?_
    rintro e w9 ⟨rfl, h9⟩
    have B9 := Lib.hid (B8.out.trans (h9.mono B8.out.size))
    clear h9
    go_wp2_with fail
    refine (addTo E4.out _ (HS.out.below B9.out) ZB.out ZC.out).mono ?_
    rintro e w10 ⟨rfl, h10⟩
    have B10 := Lib.hid (B9.out.trans (h10.mono B9.out.size))
    clear h10
    go_wp2_with fail
    refine (addTo E5.out _ (HS.out.below B10.out) ZA.out Zbc.out).mono ?_
    rintro e w11 ⟨rfl, h11⟩
    have B11 := Lib.hid (B10.out.trans (h11.mono B10.out.size))
    clear h11
    go_wp2_with fail
    refine (mulTo E6.out _ (HS.out.below B11.out) ZA.out ZB.out).mono ?_
    rintro e w12 ⟨rfl, h12⟩
    have B12 := Lib.hid (B11.out.trans (h12.mono B11.out.size))
    clear h12
    go_wp2_with fail
    refine (mulTo E7.out _ (HS.out.below B12.out) ZB.out ZA.out).mono ?_
    rintro e w13 ⟨rfl, h13⟩
    have B13 := Lib.hid (B12.out.trans (h13.mono B12.out.size))
    clear h13
    go_wp2_with fail
    refine (mulTo E6.out _ (HS.out.below B13.out) ZA.out ZB.out).mono ?_
    rintro e w14 ⟨rfl, h14⟩
    have B14 := Lib.hid (B13.out.trans (h14.mono B13.out.size))
    clear h14
    go_wp2_with fail
    refine (mulTo E8.out _ (HS.out.below B14.out) Zm.out ZC.out).mono ?_
    rintro e w15 ⟨rfl, h15⟩
    have B15 := Lib.hid (B14.out.trans (h15.mono B14.out.size))
    clear h15
    go_wp2_with fail
    refine (mulTo E9.out _ (HS.out.below B15.out) ZB.out ZC.out).mono ?_
    rintro e w16 ⟨rfl, h16⟩
    have B16 := Lib.hid (B15.out.trans (h16.mono B15.out.size))
    clear h16
    go_wp2_with fail
    refine (mulTo E10.out _ (HS.out.below B16.out) ZA.out Zn.out).mono ?_
    rintro e w17 ⟨rfl, h17⟩
    have B17 := Lib.hid (B16.out.trans (h17.mono B16.out.size))
    clear h17
    go_wp2_with fail
    refine (addTo E1.out _ (HS.out.below B17.out) ZA.out ZB.out).mono ?_
    rintro e w18 ⟨rfl, h18⟩
    have B18 := Lib.hid (B17.out.trans (h18.mono B17.out.size))
    clear h18
    go_wp2_with fail
    refine (subTo E11.out _ (HS.out.below B18.out) Zab.out).mono ?_
    rintro e w19 ⟨rfl, h19⟩
    have B19 := Lib.hid (B18.out.trans (h19.mono B18.out.size))
    clear h19
    go_wp2_with fail
    refine (addTo E4.out _ (HS.out.below B19.out) ZB.out ZC.out).mono ?_
    rintro e w20 ⟨rfl, h20⟩
    have B20 := Lib.hid (B19.out.trans (h20.mono B19.out.size))
    clear h20
    go_wp2_with fail
    refine (mulTo E12.out _ (HS.out.below B20.out) ZA.out Zbc.out).mono ?_
    rintro e w21 ⟨rfl, h21⟩
    have B21 := Lib.hid (B20.out.trans (h21.mono B20.out.size))
    clear h21
    go_wp2_with fail
    refine (mulTo E6.out _ (HS.out.below B21.out) ZA.out ZB.out).mono ?_
    rintro e w22 ⟨rfl, h22⟩
    have B22 := Lib.hid (B21.out.trans (h22.mono B21.out.size))
    clear h22
    go_wp2_with fail
    refine (mulTo E13.out _ (HS.out.below B22.out) ZA.out ZC.out).mono ?_
    rintro e w23 ⟨rfl, h23⟩
    have B23 := Lib.hid (B22.out.trans (h23.mono B22.out.size))
    clear h23
    go_wp2_with fail
    refine (addTo E14.out _ (HS.out.below B23.out) Zm.out Zk.out).mono ?_
    rintro e w24 ⟨rfl, h24⟩
    have B24 := Lib.hid (B23.out.trans (h24.mono B23.out.size))
    clear h24
    go_wp2_with fail
    go_ret
    exact ⟨rfl, B24.out⟩
  · have HF := Lib.hid (fun wx => few_no a1 a2 a3 l1 l2 l3 c1 c2 c3 wx hfew r1.len_bd r2.len_bd r3.len_bd)
    clear hs r1 r2 r3 hfew
    go_enter Tryd.func11, Tryd.ntmps11
    go_wp2_with fail
    refine (known_any _ HS.out).mono ?_
    rintro e w1 ⟨rfl, h1⟩
    have B1 := Lib.hid h1
    clear h1
    go_wp2_with fail
    refine (HF.out _).mono ?_
    rintro e w2 ⟨rfl, rfl⟩
    go_wp2_with fail
    refine (known_any _ (HS.out.below B1.out)).mono ?_
    rintro e w3 ⟨rfl, h3⟩
    have B3 := Lib.hid (B1.out.trans (h3.mono B1.out.size))
    clear h3
    go_wp2_with fail
    go_ret
    exact ⟨rfl, B3.out⟩
end Go.Proofs.YtaghhkninggcnaaDoor
