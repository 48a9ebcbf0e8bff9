/-
  The walk of the law DecimalAdds.
-/
import Derived.Test.YtaghhkninggcnaaDoorTools
import Derived.Test.YtaghhkninggcnaaDoorRefSub
import Derived.Test.YtaghhkninggcnaaDoorRefMul
namespace Go.Proofs.YtaghhkninggcnaaDoor
open Go.RowKit

set_option maxHeartbeats 6400000 in
set_option maxRecDepth 100000 in
theorem adds_law (a1 : Option Addr) (l1 c1 : Nat) (z1 : List Int) (a2 : Option Addr) (l2 c2 : Nat) (z2 : List Int) (w : World) (hs : Std w) (r1 : IsRow .u8 w a1 l1 c1 z1) (r2 : IsRow .u8 w a2 l2 c2 z2) :
    Calls Tryd.prog 7 #[.slice a1 l1 c1, .slice a2 l2 c2] w fun e w' => e = .returned (.bool true) ∧ Below w.heap.size w w' := by
  have HS := Lib.hid hs
  have R1 := Lib.hid r1
  have R2 := Lib.hid r2
  by_cases hfew : l1 ≤ 120 ∧ l2 ≤ 120 ∧ 0 ≤ 120
  · have HF := Lib.hid (fun wx => few_yes a1 a2 none l1 l2 0 c1 c2 0 wx hfew.1 hfew.2.1 hfew.2.2)
    clear hs r1 r2 hfew
    go_enter Tryd.func7, Tryd.ntmps7
    go_wp2_with fail
    refine (known_any _ HS.out).mono ?_
    rintro e w1 ⟨rfl, h1⟩
    have B1 := Lib.hid h1
    clear h1
    go_wp2_with fail
    refine (HF.out _).mono ?_
    rintro e w2 ⟨rfl, rfl⟩
    go_wp2_with fail
    refine (make_any a1 l1 c1 z1 _ (R1.out.below B1.out)).mono ?_
    rintro e w3 ⟨a, rfl, hn3, h3⟩
    have B3 := Lib.hid (B1.out.trans (h3.mono B1.out.size))
    have HN3 := Lib.hid hn3
    clear h3 hn3
    go_wp2_with fail
    refine (make_any a2 l2 c2 z2 _ (R2.out.below B3.out)).mono ?_
    rintro e w4 ⟨b, rfl, hn4, h4⟩
    have B4 := Lib.hid (B3.out.trans (h4.mono B3.out.size))
    have HN4 := Lib.hid hn4
    clear h4 hn4
    have SA := Lib.hid (Nat.le_trans (size120 HN3.out) (show 120 ≤ 450000 by decide))
    have SB := Lib.hid (Nat.le_trans (size120 HN4.out) (show 120 ≤ 450000 by decide))
    by_cases hlt : a < b
    · have HCM := Lib.hid (fun wx => compareR_any a b wx (Nat.le_trans SA.out (by decide)) (Nat.le_trans SB.out (by decide)))
      rw [cmp_lt hlt] at HCM
      have HSU := Lib.hid (fun wx hx => subN_no a b wx hx SB.out hlt)
      clear hlt
      go_wp2_with fail
      refine (HSU.out _ (HS.out.below B4.out)).mono ?_
      rintro e w5 ⟨rfl, h5⟩
      have B5 := Lib.hid (B4.out.trans (h5.mono B4.out.size))
      clear h5
      go_wp2_with fail
      refine (addN_any a b _ (HS.out.below B5.out) SA.out SB.out).mono ?_
      rintro e w6 ⟨rfl, h6⟩
      have B6 := Lib.hid (B5.out.trans (h6.mono B5.out.size))
      clear h6
      go_wp2_with fail
      refine (addR_any a b _ SA.out SB.out).mono ?_
      rintro e w7 ⟨rfl, h7⟩
      have B7 := Lib.hid (B6.out.trans (h7.mono B6.out.size))
      clear h7
      go_wp2_with fail
      refine (mul_any a b _ (HS.out.below B7.out) SA.out SB.out).mono ?_
      rintro e w8 ⟨rfl, h8⟩
      have B8 := Lib.hid (B7.out.trans (h8.mono B7.out.size))
      clear h8
      go_wp2_with fail
      refine (mulR_any a b _ SA.out SB.out).mono ?_
      rintro e w9 ⟨rfl, h9⟩
      have B9 := Lib.hid (B8.out.trans (h9.mono B8.out.size))
      clear h9
      go_wp2_with fail
      refine (HCM.out _).mono ?_
      rintro e w10 ⟨rfl, rfl⟩
      go_wp2_with fail
      go_ret
      exact ⟨rfl, B9.out⟩
    · have hc : ¬ cmpN a b < 0 := by
        unfold cmpN; rw [if_neg hlt]; split <;> decide
      have HCM := Lib.hid (fun wx => compareR_any a b wx (Nat.le_trans SA.out (by decide)) (Nat.le_trans SB.out (by decide)))
      obtain ⟨c, hcc⟩ : ∃ c, c = cmpN a b := ⟨_, rfl⟩
      rw [← hcc] at hc HCM
      have HSU := Lib.hid (fun wx hx => subN_yes a b wx hx SA.out (Nat.le_of_not_lt hlt))
      have HMI := Lib.hid (fun wx => minusR_any a b wx SA.out (Nat.le_of_not_lt hlt))
      clear hlt hcc
      go_wp2_with fail
      refine (HSU.out _ (HS.out.below B4.out)).mono ?_
      rintro e w5 ⟨rfl, h5⟩
      have B5 := Lib.hid (B4.out.trans (h5.mono B4.out.size))
      clear h5
      go_wp2_with fail
      refine (addN_any a b _ (HS.out.below B5.out) SA.out SB.out).mono ?_
      rintro e w6 ⟨rfl, h6⟩
      have B6 := Lib.hid (B5.out.trans (h6.mono B5.out.size))
      clear h6
      go_wp2_with fail
      refine (addR_any a b _ SA.out SB.out).mono ?_
      rintro e w7 ⟨rfl, h7⟩
      have B7 := Lib.hid (B6.out.trans (h7.mono B6.out.size))
      clear h7
      go_wp2_with fail
      refine (mul_any a b _ (HS.out.below B7.out) SA.out SB.out).mono ?_
      rintro e w8 ⟨rfl, h8⟩
      have B8 := Lib.hid (B7.out.trans (h8.mono B7.out.size))
      clear h8
      go_wp2_with fail
      refine (mulR_any a b _ SA.out SB.out).mono ?_
      rintro e w9 ⟨rfl, h9⟩
      have B9 := Lib.hid (B8.out.trans (h9.mono B8.out.size))
      clear h9
      go_wp2_with fail
      refine (HCM.out _).mono ?_
      rintro e w10 ⟨rfl, rfl⟩
      go_wp2_with fail
      refine (HMI.out _).mono ?_
      rintro e w11 ⟨rfl, h11⟩
      have B11 := Lib.hid (B9.out.trans (h11.mono B9.out.size))
      clear h11
      go_wp2_with fail
      go_ret
      exact ⟨rfl, B11.out⟩
  · have HF := Lib.hid (fun wx => few_no a1 a2 none l1 l2 0 c1 c2 0 wx hfew r1.len_bd r2.len_bd (by omega))
    clear hs r1 r2 hfew
    go_enter Tryd.func7, Tryd.ntmps7
    go_wp2_with fail
    refine (known_any _ HS.out).mono ?_
    rintro e w1 ⟨rfl, h1⟩
    have B1 := Lib.hid h1
    clear h1
    go_wp2_with fail
    refine (HF.out _).mono ?_
    rintro e w2 ⟨rfl, rfl⟩
    go_wp2_with fail
    refine (known_any _ (HS.out.below B1.out)).mono ?_
    rintro e w3 ⟨rfl, h3⟩
    have B3 := Lib.hid (B1.out.trans (h3.mono B1.out.size))
    clear h3
    go_wp2_with fail
    go_ret
    exact ⟨rfl, B3.out⟩
end Go.Proofs.YtaghhkninggcnaaDoor
