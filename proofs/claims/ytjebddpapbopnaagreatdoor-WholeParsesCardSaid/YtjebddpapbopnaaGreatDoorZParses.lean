/-
  The law WholeParses.
-/
import Derived.Test.YtjebddpapbopnaaGreatDoorZBox
namespace Go.Proofs.YtjebddpapbopnaaGreatDoor
open Go.RowKit

set_option maxHeartbeats 3200000 in
set_option maxRecDepth 100000 in
theorem parsesZ (s : ByteArray) (w : World) (hs : Std w) (hm : s.size ≤ 9223372036854775807) :
    Calls Tryz.prog 5 #[.string s] w fun e w' => e = .returned (.bool true) ∧ Below w.heap.size w w' := by
  have HS := Lib.hid hs
  have HK := Lib.hid (fun wx hw => knownZ_any wx hw)
  by_cases hl : s.size ≤ 420
  · have hd : decide ((420 : Int) < s.size) = false := decide_eq_false (by omega)
    have HA := Lib.hid (fun wx => parW_any s wx (by omega))
    have HR := Lib.hid (fun wx => parR_any s wx (by omega))
    obtain ⟨u, hu⟩ : ∃ u, u = (parV s).1 := ⟨_, rfl⟩
    obtain ⟨k, hk⟩ : ∃ u, u = (parV s).2 := ⟨_, rfl⟩
    rw [← hu, ← hk] at HA HR
    have e1 : (k == k) = true := beq_self_eq_true _
    have e2 : (u.toList == u.toList) = true := beq_self_eq_true _
    clear hs hu hk
    go_enter Tryz.func5, Tryz.ntmps5
    go_wp2_with fail
    refine (HK.out _ HS.out).mono ?_
    rintro e w1 ⟨rfl, h1⟩
    have B1 := Lib.hid h1
    clear h1
    go_wp2_with fail
    refine (HA.out _).mono ?_
    rintro e w2 ⟨rfl, h2⟩
    have B2 := Lib.hid (B1.out.trans (h2.mono B1.out.size))
    clear h2
    go_wp2_with fail
    refine (HR.out _).mono ?_
    rintro e w3 ⟨rfl, rfl⟩
    go_wp2_with fail
    go_ret
    exact ⟨rfl, B2.out⟩
  · have hd : decide ((420 : Int) < s.size) = true := decide_eq_true (by omega)
    clear hs
    go_enter Tryz.func5, Tryz.ntmps5
    go_wp2_with fail
    refine (HK.out _ HS.out).mono ?_
    rintro e w1 ⟨rfl, h1⟩
    have B1 := Lib.hid h1
    clear h1
    go_wp2_with fail
    refine (HK.out _ (HS.out.below B1.out)).mono ?_
    rintro e w2 ⟨rfl, h2⟩
    have B2 := Lib.hid (B1.out.trans (h2.mono B1.out.size))
    clear h2
    go_wp2_with fail
    go_ret
    exact ⟨rfl, B2.out⟩
end Go.Proofs.YtjebddpapbopnaaGreatDoor
