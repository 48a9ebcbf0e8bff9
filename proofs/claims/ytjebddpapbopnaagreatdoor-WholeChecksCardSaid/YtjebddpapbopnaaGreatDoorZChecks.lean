/-
  The law WholeChecks.
-/
import Derived.Test.YtjebddpapbopnaaGreatDoorZRight
namespace Go.Proofs.YtjebddpapbopnaaGreatDoor
open Go.RowKit

set_option maxHeartbeats 3200000 in
set_option maxRecDepth 100000 in
theorem checksZ (s : ByteArray) (n : Int) (w : World) (hs : Std w) (hm : s.size ≤ 9223372036854775807) (hn : (Lit.int .i64 n).wf = true) :
    Calls Tryz.prog 3 #[.string s, .int .i64 n] w fun e w' => e = .returned (.bool true) ∧ Below w.heap.size w w' := by
  obtain ⟨h1, h2⟩ := bounds_i64 hn
  have HS := Lib.hid hs
  have HK := Lib.hid (fun wx hw => knownZ_any wx hw)
  clear hn
  by_cases hl : s.size ≤ 420
  · have hd : decide ((420 : Int) < s.size) = false := decide_eq_false (by omega)
    have HC := Lib.hid (fun wx => checkW_any s wx (by omega))
    have HR := Lib.hid (fun wx => rightR_any s wx (by omega))
    have HO := Lib.hid (fun wx hw => ofW_any n wx hw h1 h2)
    have HOR := Lib.hid (fun wx hw => ofR2_any n wx hw h1 h2)
    have hq := fun wx hw => smallW_any n wx hw (n63 h1 h2)
    rw [show smV n = n by unfold smV; rw [inI_of.2 ⟨h1, h2⟩]; rfl, inI_of.2 ⟨h1, h2⟩] at hq
    have HQ := Lib.hid hq
    obtain ⟨t, ht⟩ : ∃ t, t = zS n := ⟨_, rfl⟩
    rw [← ht] at HO HOR HQ
    have e1 : (n == n) = true := beq_self_eq_true _
    have e2 : (t.toList == t.toList) = true := beq_self_eq_true _
    have hc : chkZ s = if rgt s = true then 0 else 2 := chk_rgt s
    obtain ⟨R, hR⟩ : ∃ R, R = rgt s := ⟨_, rfl⟩
    obtain ⟨C, hC⟩ : ∃ C, C = chkZ s := ⟨_, rfl⟩
    rw [← hR] at HR hc
    rw [← hC] at HC hc
    clear hs hq ht hR hC h1 h2
    cases R
    · obtain rfl : C = 2 := hc
      go_enter Tryz.func3, Tryz.ntmps3
      go_wp2_with fail
      refine (HK.out _ HS.out).mono ?_
      rintro e w1 ⟨rfl, h1⟩
      have B1 := Lib.hid h1
      clear h1
      go_wp2_with fail
      refine (HR.out _).mono ?_
      rintro e w2 ⟨rfl, h2⟩
      have B2 := Lib.hid (B1.out.trans (h2.mono B1.out.size))
      clear h2
      go_wp2_with fail
      refine (HO.out _ (HS.out.below B2.out)).mono ?_
      rintro e w3 ⟨rfl, h3⟩
      have B3 := Lib.hid (B2.out.trans (h3.mono B2.out.size))
      clear h3
      go_wp2_with fail
      refine (HQ.out _ (HS.out.below B3.out)).mono ?_
      rintro e w4 ⟨rfl, h4⟩
      have B4 := Lib.hid (B3.out.trans (h4.mono B3.out.size))
      clear h4
      go_wp2_with fail
      refine (HC.out _).mono ?_
      rintro e w5 ⟨rfl, h5⟩
      have B5 := Lib.hid (B4.out.trans (h5.mono B4.out.size))
      clear h5
      go_wp2_with fail
      refine (HO.out _ (HS.out.below B5.out)).mono ?_
      rintro e w6 ⟨rfl, h6⟩
      have B6 := Lib.hid (B5.out.trans (h6.mono B5.out.size))
      clear h6
      go_wp2_with fail
      refine (HOR.out _ (HS.out.below B6.out)).mono ?_
      rintro e w7 ⟨rfl, h7⟩
      have B7 := Lib.hid (B6.out.trans (h7.mono B6.out.size))
      clear h7
      go_wp2_with fail
      go_ret
      exact ⟨rfl, B7.out⟩
    · obtain rfl : C = 0 := hc
      go_enter Tryz.func3, Tryz.ntmps3
      go_wp2_with fail
      refine (HK.out _ HS.out).mono ?_
      rintro e w1 ⟨rfl, h1⟩
      have B1 := Lib.hid h1
      clear h1
      go_wp2_with fail
      refine (HR.out _).mono ?_
      rintro e w2 ⟨rfl, h2⟩
      have B2 := Lib.hid (B1.out.trans (h2.mono B1.out.size))
      clear h2
      go_wp2_with fail
      refine (HO.out _ (HS.out.below B2.out)).mono ?_
      rintro e w3 ⟨rfl, h3⟩
      have B3 := Lib.hid (B2.out.trans (h3.mono B2.out.size))
      clear h3
      go_wp2_with fail
      refine (HQ.out _ (HS.out.below B3.out)).mono ?_
      rintro e w4 ⟨rfl, h4⟩
      have B4 := Lib.hid (B3.out.trans (h4.mono B3.out.size))
      clear h4
      go_wp2_with fail
      refine (HC.out _).mono ?_
      rintro e w5 ⟨rfl, h5⟩
      have B5 := Lib.hid (B4.out.trans (h5.mono B4.out.size))
      clear h5
      go_wp2_with fail
      refine (HO.out _ (HS.out.below B5.out)).mono ?_
      rintro e w6 ⟨rfl, h6⟩
      have B6 := Lib.hid (B5.out.trans (h6.mono B5.out.size))
      clear h6
      go_wp2_with fail
      refine (HOR.out _ (HS.out.below B6.out)).mono ?_
      rintro e w7 ⟨rfl, h7⟩
      have B7 := Lib.hid (B6.out.trans (h7.mono B6.out.size))
      clear h7
      go_wp2_with fail
      go_ret
      exact ⟨rfl, B7.out⟩
  · have hd : decide ((420 : Int) < s.size) = true := decide_eq_true (by omega)
    clear hs h1 h2
    go_enter Tryz.func3, Tryz.ntmps3
    go_wp2_with fail
    refine (HK.out _ HS.out).mono ?_
    rintro e w1 ⟨rfl, h1⟩
    have B1 := Lib.hid h1
    clear h1
    go_wp2_with fail
    refine (HK.out _ (HS.out.below B1.out)).mono ?_
    rintro e w2 ⟨rfl, h2⟩
    have B2 := Lib.hid (B1.out.trans (h2.mono B1.out.size))
    clear h2
    go_wp2_with fail
    go_ret
    exact ⟨rfl, B2.out⟩
end Go.Proofs.YtjebddpapbopnaaGreatDoor
