/-
  The walk of the law DecimalCompares.
-/
import Derived.Test.YtaghhkninggcnaaDoorRefBits
namespace Go.Proofs.YtaghhkninggcnaaDoor
open Go.RowKit

theorem digits_any (x : ByteArray) (w : World) :
    Calls Tryd.prog 17 #[.string x] w fun e w' => e = .returned (.int .i64 x.size) ∧ w = w' := by
  go_enter Tryd.func17, Tryd.ntmps17
  go_wp2
  go_ret
  exact ⟨rfl, rfl⟩

set_option maxHeartbeats 6400000 in
set_option maxRecDepth 100000 in
theorem compares_law (a1 : Option Addr) (l1 c1 : Nat) (z1 : List Int) (a2 : Option Addr) (l2 c2 : Nat) (z2 : List Int) (w : World) (hs : Std w) (r1 : IsRow .u8 w a1 l1 c1 z1) (r2 : IsRow .u8 w a2 l2 c2 z2) :
    Calls Tryd.prog 6 #[.slice a1 l1 c1, .slice a2 l2 c2] w fun e w' => e = .returned (.bool true) ∧ Below w.heap.size w w' := by
  have HS := Lib.hid hs
  have R1 := Lib.hid r1
  have R2 := Lib.hid r2
  by_cases hfew : l1 ≤ 120 ∧ l2 ≤ 120 ∧ 0 ≤ 120
  · have HF := Lib.hid (fun wx => few_yes a1 a2 none l1 l2 0 c1 c2 0 wx hfew.1 hfew.2.1 hfew.2.2)
    clear hs r1 r2 hfew
    go_enter Tryd.func6, Tryd.ntmps6
    go_wp2_with fail
    refine (known_any _ HS.out).mono ?_
    rintro e w1 ⟨rfl, h1⟩
    have B1 := Lib.hid h1
    clear h1
    go_wp2_with fail
    refine (HF.out _).mono ?_
    rintro e w2 ⟨rfl, rfl⟩
    go_wp2_with fail
    refine (make_any a1 l1 c1 z1 _ (R1.out.below B1.out)).mono ?_
    rintro e w3 ⟨a, rfl, hn3, h3⟩
    have B3 := Lib.hid (B1.out.trans (h3.mono B1.out.size))
    have HN3 := Lib.hid hn3
    clear h3 hn3
    go_wp2_with fail
    refine (make_any a2 l2 c2 z2 _ (R2.out.below B3.out)).mono ?_
    rintro e w4 ⟨b, rfl, hn4, h4⟩
    have B4 := Lib.hid (B3.out.trans (h4.mono B3.out.size))
    have HN4 := Lib.hid hn4
    clear h4 hn4
    have SA := Lib.hid (Nat.le_trans (size120 HN3.out) (show 120 ≤ 400000 by decide))
    have SB := Lib.hid (Nat.le_trans (size120 HN4.out) (show 120 ≤ 400000 by decide))
    have HC1 := Lib.hid (fun wx => compare_any a b wx)
    have HC2 := Lib.hid (fun wx => compareR_any a b wx (Nat.le_trans SA.out (by decide)) (Nat.le_trans SB.out (by decide)))
    have HC3 := Lib.hid (fun wx => compare_any a a wx)
    rw [cmp_eq] at HC3
    obtain ⟨c, hcc⟩ : ∃ c, c = cmpN a b := ⟨_, rfl⟩
    rw [← hcc] at HC1 HC2
    clear hcc
    go_wp2_with fail
    refine (HC1.out _).mono ?_
    rintro e w5 ⟨rfl, rfl⟩
    go_wp2_with fail
    refine (HC2.out _).mono ?_
    rintro e w6 ⟨rfl, rfl⟩
    go_wp2_with fail
    refine (HC3.out _).mono ?_
    rintro e w7 ⟨rfl, rfl⟩
    go_wp2_with fail
    refine (digits_any (str a) _).mono ?_
    rintro e w8 ⟨rfl, rfl⟩
    go_wp2_with fail
    refine (bits_any a _ (HS.out.below B4.out) (Nat.le_trans SA.out (by decide))).mono ?_
    rintro e wb ⟨k, rfl, hk, hb⟩
    have HBB := Lib.hid (B4.out.trans (hb.mono B4.out.size))
    have HK := Lib.hid hk
    clear hk hb
    go_wp2_with fail
    refine (bitsR_any a _ SA.out).mono ?_
    rintro e wc ⟨k2, rfl, hk2, hb⟩
    obtain rfl : k2 = k := hk2.unique HK.out
    have HBC := Lib.hid (HBB.out.trans (hb.mono HBB.out.size))
    clear hk2 hb
    go_wp2_with fail
    go_ret
    exact ⟨rfl, HBC.out⟩
  · have HF := Lib.hid (fun wx => few_no a1 a2 none l1 l2 0 c1 c2 0 wx hfew r1.len_bd r2.len_bd (by omega))
    clear hs r1 r2 hfew
    go_enter Tryd.func6, Tryd.ntmps6
    go_wp2_with fail
    refine (known_any _ HS.out).mono ?_
    rintro e w1 ⟨rfl, h1⟩
    have B1 := Lib.hid h1
    clear h1
    go_wp2_with fail
    refine (HF.out _).mono ?_
    rintro e w2 ⟨rfl, rfl⟩
    go_wp2_with fail
    refine (known_any _ (HS.out.below B1.out)).mono ?_
    rintro e w3 ⟨rfl, h3⟩
    have B3 := Lib.hid (B1.out.trans (h3.mono B1.out.size))
    clear h3
    go_wp2_with fail
    go_ret
    exact ⟨rfl, B3.out⟩
end Go.Proofs.YtaghhkninggcnaaDoor
