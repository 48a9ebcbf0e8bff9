/-
  The walk of the law DecimalDivides.
-/
import Derived.Test.YtfhmdlpjeiockaaDoorTools
import Derived.Test.YtfhmdlpjeiockaaDoorDivMod
import Derived.Test.YtfhmdlpjeiockaaDoorRefMul
import Derived.Test.YtfhmdlpjeiockaaDoorForms
namespace Go.Proofs.YtfhmdlpjeiockaaDoor
open Go.RowKit

theorem canonR_str (a : Nat) (w : World) (h : (str a).size ≤ 450000) :
    Calls Tryd.prog 9 #[.string (str a)] w fun e w' => e = .returned (.bool true) ∧ w = w' := by
  have := canonR_any (str a) w (by omega)
  rw [canon_str] at this; exact this

set_option maxHeartbeats 6400000 in
set_option maxRecDepth 100000 in
theorem divides_law (a1 : Option Addr) (l1 c1 : Nat) (z1 : List Int) (a2 : Option Addr) (l2 c2 : Nat) (z2 : List Int) (w : World) (hs : Std w) (r1 : IsRow .u8 w a1 l1 c1 z1) (r2 : IsRow .u8 w a2 l2 c2 z2) :
    Calls Tryd.prog 3 #[.slice a1 l1 c1, .slice a2 l2 c2] w fun e w' => e = .returned (.bool true) ∧ Below w.heap.size w w' := by
  have HS := Lib.hid hs
  have R1 := Lib.hid r1
  have R2 := Lib.hid r2
  by_cases hfew : l1 ≤ 120 ∧ l2 ≤ 120 ∧ 0 ≤ 120
  · have HF := Lib.hid (fun wx => few_yes a1 a2 none l1 l2 0 c1 c2 0 wx hfew.1 hfew.2.1 hfew.2.2)
    clear hs r1 r2 hfew
    go_enter Tryd.func3, Tryd.ntmps3
    go_wp2_with fail
    refine (known_any _ HS.out).mono ?_
    rintro e w1 ⟨rfl, h1⟩
    have B1 := Lib.hid h1
    clear h1
    go_wp2_with fail
    refine (HF.out _).mono ?_
    rintro e w2 ⟨rfl, rfl⟩
    go_wp2_with fail
    refine (make_any a1 l1 c1 z1 _ (R1.out.below B1.out)).mono ?_
    rintro e w3 ⟨a, rfl, hn3, h3⟩
    have B3 := Lib.hid (B1.out.trans (h3.mono B1.out.size))
    have HN3 := Lib.hid hn3
    clear h3 hn3
    go_wp2_with fail
    refine (make_any a2 l2 c2 z2 _ (R2.out.below B3.out)).mono ?_
    rintro e w4 ⟨b, rfl, hn4, h4⟩
    have B4 := Lib.hid (B3.out.trans (h4.mono B3.out.size))
    have HN4 := Lib.hid hn4
    clear h4 hn4
    have SA := Lib.hid (size120 HN3.out)
    have SB := Lib.hid (size120 HN4.out)
    have i0 := is0 b
    by_cases hb : b = 0
    · have e0 : ((str b).toList == [48]) = true := by rw [i0]; simpa using hb
      have HD := Lib.hid (fun wx hx => dm_zero a b wx hx (Nat.le_trans SA.out (by decide)) hb)
      clear i0 hb
      go_wp2_with fail
      refine (HD.out _ (HS.out.below B4.out)).mono ?_
      rintro e w5 ⟨rfl, h5⟩
      have B5 := Lib.hid (B4.out.trans (h5.mono B4.out.size))
      clear h5
      go_wp2_with fail
      go_ret
      exact ⟨rfl, B5.out⟩
    · have e0 : ((str b).toList == [48]) = false := by rw [i0]; simpa using hb
      have hb0 : 0 < b := Nat.pos_of_ne_zero hb
      have HD := Lib.hid (fun wx hx => dm_any a b wx hx (Nat.le_trans SA.out (by decide)) (Nat.le_trans SB.out (by decide)) hb0)
      have hq120 : (str (a / b)).size ≤ 120 := Nat.le_trans (size_mono (Nat.div_le_self a b)) SA.out
      have hr120 : (str (a % b)).size ≤ 120 := Nat.le_trans (size_mono (Nat.mod_le a b)) SA.out
      have hsum : a / b * b + a % b = a := by rw [Nat.mul_comm]; exact Nat.div_add_mod a b
      have hlt : a % b < b := Nat.mod_lt a hb0
      obtain ⟨q, hq⟩ : ∃ q, q = a / b := ⟨_, rfl⟩
      obtain ⟨r, hr⟩ : ∃ r, r = a % b := ⟨_, rfl⟩
      rw [← hq] at HD hq120 hsum
      rw [← hr] at HD hr120 hsum hlt
      have hqb : (str (q * b)).size ≤ 120 := Nat.le_trans (size_mono (by omega)) SA.out
      have HCM := Lib.hid (fun wx => compareR_any r b wx (Nat.le_trans hr120 (by decide)) (Nat.le_trans SB.out (by decide)))
      rw [cmp_lt hlt] at HCM
      have HMU := Lib.hid (fun wx => mulR_any q b wx (Nat.le_trans hq120 (by decide)) (Nat.le_trans SB.out (by decide)))
      have HAD := Lib.hid (fun wx => addR_any (q * b) r wx (Nat.le_trans hqb (by decide)) (Nat.le_trans hr120 (by decide)))
      rw [hsum] at HAD
      have HC1 := Lib.hid (fun wx => canonR_str q wx (Nat.le_trans hq120 (by decide)))
      have HC2 := Lib.hid (fun wx => canonR_str r wx (Nat.le_trans hr120 (by decide)))
      clear i0 hb hq hr hsum hlt hqb hb0
      go_wp2_with fail
      refine (HD.out _ (HS.out.below B4.out)).mono ?_
      rintro e w5 ⟨rfl, h5⟩
      have B5 := Lib.hid (B4.out.trans (h5.mono B4.out.size))
      clear h5
      go_wp2_with fail
      refine (HC1.out _).mono ?_
      rintro e w6 ⟨rfl, rfl⟩
      go_wp2_with fail
      refine (HC2.out _).mono ?_
      rintro e w7 ⟨rfl, rfl⟩
      go_wp2_with fail
      refine (HCM.out _).mono ?_
      rintro e w8 ⟨rfl, rfl⟩
      go_wp2_with fail
      refine (HMU.out _).mono ?_
      rintro e w9 ⟨rfl, h9⟩
      have B9 := Lib.hid (B5.out.trans (h9.mono B5.out.size))
      clear h9
      go_wp2_with fail
      refine (HAD.out _).mono ?_
      rintro e w10 ⟨rfl, h10⟩
      have B10 := Lib.hid (B9.out.trans (h10.mono B9.out.size))
      clear h10
      go_wp2_with fail
      go_ret
      exact ⟨rfl, B10.out⟩
  · have HF := Lib.hid (fun wx => few_no a1 a2 none l1 l2 0 c1 c2 0 wx hfew r1.len_bd r2.len_bd (by omega))
    clear hs r1 r2 hfew
    go_enter Tryd.func3, Tryd.ntmps3
    go_wp2_with fail
    refine (known_any _ HS.out).mono ?_
    rintro e w1 ⟨rfl, h1⟩
    have B1 := Lib.hid h1
    clear h1
    go_wp2_with fail
    refine (HF.out _).mono ?_
    rintro e w2 ⟨rfl, rfl⟩
    go_wp2_with fail
    refine (known_any _ (HS.out.below B1.out)).mono ?_
    rintro e w3 ⟨rfl, h3⟩
    have B3 := Lib.hid (B1.out.trans (h3.mono B1.out.size))
    clear h3
    go_wp2_with fail
    go_ret
    exact ⟨rfl, B3.out⟩
end Go.Proofs.YtfhmdlpjeiockaaDoor
