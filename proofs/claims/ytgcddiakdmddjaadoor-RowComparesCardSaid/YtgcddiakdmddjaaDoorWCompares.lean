/-
  The walk of the law RowCompares.
-/
import Derived.Test.YtgcddiakdmddjaaDoorWComp2
namespace Go.Proofs.YtgcddiakdmddjaaDoor
open Go.RowKit

set_option maxHeartbeats 1600000 in
set_option maxRecDepth 100000 in
theorem compares_long1 (a : Option Addr) (l c : Nat) (z : List Int) (a2 : Option Addr) (l2 c2 : Nat) (z2 : List Int) (w : World) (hs : Std w) (r1 : Rd w a l c z) (r2 : Rd w a2 l2 c2 z2) (h : 80 < l) :
    Calls Tryd.prog 5 #[.slice a l c, .slice a2 l2 c2] w fun e w' => e = .returned (.bool true) ∧ Below w.heap.size w w' := by
  have HS := Lib.hid hs
  have R1 := Lib.hid r1
  have R2 := Lib.hid r2
  have hc := r1.cap
  have hc2 := r2.cap
  clear hs r1 r2
  go_enter Tryd.func5, Tryd.ntmps5
  go_wp2_with fail
  refine (known_any _ HS.out).mono ?_
  rintro e w1 ⟨rfl, h1⟩
  have B1 := Lib.hid h1
  clear h1
  go_wp2_with fail
  refine (known_any _ (HS.out.below B1.out)).mono ?_
  rintro e w2 ⟨rfl, h2⟩
  have B2 := Lib.hid (B1.out.trans (h2.mono B1.out.size))
  clear h2
  go_wp2_with fail
  go_ret
  exact ⟨rfl, B2.out⟩

set_option maxHeartbeats 1600000 in
set_option maxRecDepth 100000 in
theorem compares_long2 (a : Option Addr) (l c : Nat) (z : List Int) (a2 : Option Addr) (l2 c2 : Nat) (z2 : List Int) (w : World) (hs : Std w) (r1 : Rd w a l c z) (r2 : Rd w a2 l2 c2 z2) (hl : l ≤ 80) (h : 80 < l2) :
    Calls Tryd.prog 5 #[.slice a l c, .slice a2 l2 c2] w fun e w' => e = .returned (.bool true) ∧ Below w.heap.size w w' := by
  have HS := Lib.hid hs
  have R1 := Lib.hid r1
  have R2 := Lib.hid r2
  have hc := r1.cap
  have hc2 := r2.cap
  clear hs r1 r2
  go_enter Tryd.func5, Tryd.ntmps5
  go_wp2_with fail
  refine (known_any _ HS.out).mono ?_
  rintro e w1 ⟨rfl, h1⟩
  have B1 := Lib.hid h1
  clear h1
  go_wp2_with fail
  refine (known_any _ (HS.out.below B1.out)).mono ?_
  rintro e w2 ⟨rfl, h2⟩
  have B2 := Lib.hid (B1.out.trans (h2.mono B1.out.size))
  clear h2
  go_wp2_with fail
  go_ret
  exact ⟨rfl, B2.out⟩

set_option maxHeartbeats 1600000 in
set_option maxRecDepth 100000 in
theorem compares_main (a : Option Addr) (l c : Nat) (z : List Int) (a2 : Option Addr) (l2 c2 : Nat) (z2 : List Int) (w : World) (hs : Std w) (r1 : Rd w a l c z) (r2 : Rd w a2 l2 c2 z2) (hl : l ≤ 80) (h : l2 ≤ 80) :
    Calls Tryd.prog 5 #[.slice a l c, .slice a2 l2 c2] w fun e w' => e = .returned (.bool true) ∧ Below w.heap.size w w' := by
  have HS := Lib.hid hs
  have R1 := Lib.hid r1
  have R2 := Lib.hid r2
  have hc := r1.cap
  have hc2 := r2.cap
  clear hs r1 r2
  have HE1 := Lib.hid (fun wx h1 h2 => equalN_any a a2 l c l2 c2 z z2 wx h1 h2)
  have HE2 := Lib.hid (fun wx h1 h2 => equalR_any a a2 l c l2 c2 z z2 wx h1 h2)
  have HC1 := Lib.hid (fun wx h1 h2 => compN_any a a2 l c l2 c2 z z2 wx h1 h2)
  have HC2 := Lib.hid (fun wx h1 h2 => compR_any a a2 l c l2 c2 z z2 wx h1 h2)
  have HD1 := Lib.hid (fun wx h1 h2 => compN_any a2 a l2 c2 l c z2 z wx h1 h2)
  have HD2 := Lib.hid (fun wx h1 h2 => compR_any a2 a l2 c2 l c z2 z wx h1 h2)
  have HZ1 := Lib.hid (fun wx h1 => zeroN_any a l c z wx h1)
  have HZ2 := Lib.hid (fun wx h1 => zeroR_any a l c z wx h1)
  obtain ⟨E, hE⟩ : ∃ E, E = decide (z = z2) := ⟨_, rfl⟩
  obtain ⟨C, hC⟩ : ∃ C, C = cmpL z z2 := ⟨_, rfl⟩
  obtain ⟨D, hD⟩ : ∃ D, D = cmpL z2 z := ⟨_, rfl⟩
  obtain ⟨Z, hZ⟩ : ∃ Z, Z = zeroB z := ⟨_, rfl⟩
  rw [← hE] at HE1 HE2
  rw [← hC] at HC1 HC2
  rw [← hD] at HD1 HD2
  rw [← hZ] at HZ1 HZ2
  clear hE hC hD hZ
  go_enter Tryd.func5, Tryd.ntmps5
  go_wp2_with fail
  refine (known_any _ HS.out).mono ?_
  rintro e w1 ⟨rfl, h1⟩
  have B1 := Lib.hid h1
  clear h1
  go_wp2_with fail
  refine (HE1.out _ (R1.out.below B1.out) (R2.out.below B1.out)).mono ?_
  rintro e w2 ⟨rfl, h2⟩
  have B2 := Lib.hid (B1.out.trans (h2.mono B1.out.size))
  clear h2
  go_wp2_with fail
  refine (HE2.out _ (R1.out.below B2.out) (R2.out.below B2.out)).mono ?_
  rintro e w3 ⟨rfl, h3⟩
  have B3 := Lib.hid (B2.out.trans (h3.mono B2.out.size))
  clear h3
  go_wp2_with fail
  refine (HC1.out _ (R1.out.below B3.out) (R2.out.below B3.out)).mono ?_
  rintro e w4 ⟨rfl, rfl⟩
  go_wp2_with fail
  refine (HC2.out _ (R1.out.below B3.out) (R2.out.below B3.out)).mono ?_
  rintro e w5 ⟨rfl, h5⟩
  have B5 := Lib.hid (B3.out.trans (h5.mono B3.out.size))
  clear h5
  go_wp2_with fail
  refine (HD1.out _ (R2.out.below B5.out) (R1.out.below B5.out)).mono ?_
  rintro e w6 ⟨rfl, rfl⟩
  go_wp2_with fail
  refine (HD2.out _ (R2.out.below B5.out) (R1.out.below B5.out)).mono ?_
  rintro e w7 ⟨rfl, h7⟩
  have B7 := Lib.hid (B5.out.trans (h7.mono B5.out.size))
  clear h7
  go_wp2_with fail
  refine (HZ1.out _ (R1.out.below B7.out)).mono ?_
  rintro e w8 ⟨rfl, rfl⟩
  go_wp2_with fail
  refine (HZ2.out _ (R1.out.below B7.out)).mono ?_
  rintro e w9 ⟨rfl, rfl⟩
  go_wp2_with fail
  go_ret
  exact ⟨rfl, B7.out⟩

theorem compares_law (a : Option Addr) (l c : Nat) (z : List Int) (a2 : Option Addr) (l2 c2 : Nat) (z2 : List Int) (w : World) (hs : Std w) (r1 : Rd w a l c z) (r2 : Rd w a2 l2 c2 z2) :
    Calls Tryd.prog 5 #[.slice a l c, .slice a2 l2 c2] w fun e w' => e = .returned (.bool true) ∧ Below w.heap.size w w' := by
  by_cases hl : l ≤ 80
  · by_cases h : l2 ≤ 80
    · exact compares_main a l c z a2 l2 c2 z2 w hs r1 r2 hl h
    · exact compares_long2 a l c z a2 l2 c2 z2 w hs r1 r2 hl (by omega)
  · exact compares_long1 a l c z a2 l2 c2 z2 w hs r1 r2 (by omega)
end Go.Proofs.YtgcddiakdmddjaaDoor
