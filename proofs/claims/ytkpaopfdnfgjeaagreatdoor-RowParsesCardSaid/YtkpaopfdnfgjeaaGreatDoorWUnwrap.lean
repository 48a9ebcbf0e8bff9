/-
  unwrap, isCanonical.
-/
import Derived.Test.YtkpaopfdnfgjeaaGreatDoorShelf
import Derived.Test.YtkpaopfdnfgjeaaGreatDoorWRead
import Derived.Test.YtkpaopfdnfgjeaaGreatDoorWWord
import Derived.RegionTactic
namespace Go.Proofs.YtkpaopfdnfgjeaaGreatDoor
open Go.RowKit

set_option maxHeartbeats 1600000 in
theorem unwrap_any (s : ByteArray) (w : World) (hs : s.size ≤ 100000) :
    Calls Tryz.prog 18 #[.string s] w fun e w' => e = .returned (.tuple #[.string ⟨(unwL s.data.toList).1.toArray⟩, .bool (unwL s.data.toList).2.1, .bool (unwL s.data.toList).2.2]) ∧ w = w' := by
  obtain ⟨l, hl⟩ : ∃ l, l = s.data.toList := ⟨_, rfl⟩
  have hsz : l.length ≤ 100000 := by rw [hl]; simpa using hs
  have h91 := trimP_len l [91]
  have h60 := trimP_len l [60]
  have HP1 := Lib.hid (fun wx => Tryz.strings_CutPrefix s ⟨#[91]⟩ wx)
  have HP2 := Lib.hid (fun wx => Tryz.strings_CutPrefix s ⟨#[60]⟩ wx)
  have HS1 := Lib.hid (fun wx => Tryz.strings_CutSuffix ⟨(Lib.trimPrefix l [91]).toArray⟩ ⟨#[62]⟩ wx (by show (Lib.trimPrefix l [91]).toArray.size ≤ _; rw [List.size_toArray]; omega))
  have HS2 := Lib.hid (fun wx => Tryz.strings_CutSuffix ⟨(Lib.trimPrefix l [60]).toArray⟩ ⟨#[93]⟩ wx (by show (Lib.trimPrefix l [60]).toArray.size ≤ _; rw [List.size_toArray]; omega))
  simp only [← hl] at HP1 HP2
  rw [← hl]
  have HU := Lib.hid (show unwL l = if (Lib.hasPrefix l [91] && Lib.hasSuffix (Lib.trimPrefix l [91]) [62]) = true then (Lib.trimSuffix (Lib.trimPrefix l [91]) [62], true, true) else (Lib.trimSuffix (Lib.trimPrefix l [60]) [93], false, Lib.hasPrefix l [60] && Lib.hasSuffix (Lib.trimPrefix l [60]) [93]) from rfl)
  obtain ⟨U, hU⟩ : ∃ U, U = unwL l := ⟨_, rfl⟩
  rw [← hU] at HU ⊢
  clear hU hl hsz h91 h60
  obtain ⟨V1, hV1⟩ : ∃ x, x = Lib.trimSuffix (Lib.trimPrefix l [91]) [62] := ⟨_, rfl⟩
  obtain ⟨V2, hV2⟩ : ∃ x, x = Lib.trimSuffix (Lib.trimPrefix l [60]) [93] := ⟨_, rfl⟩
  obtain ⟨b2, hb2⟩ : ∃ x, x = Lib.hasSuffix (Lib.trimPrefix l [91]) [62] := ⟨_, rfl⟩
  obtain ⟨b4, hb4⟩ : ∃ x, x = Lib.hasSuffix (Lib.trimPrefix l [60]) [93] := ⟨_, rfl⟩
  obtain ⟨b1, hb1⟩ : ∃ x, x = Lib.hasPrefix l [91] := ⟨_, rfl⟩
  obtain ⟨b3, hb3⟩ : ∃ x, x = Lib.hasPrefix l [60] := ⟨_, rfl⟩
  simp only [← hV1, ← hb2] at HS1 HU
  simp only [← hV2, ← hb4] at HS2 HU
  simp only [← hb1] at HP1 HU
  simp only [← hb3] at HP2 HU
  clear hV1 hV2 hb1 hb2 hb3 hb4
  go_enter Tryz.func18, Tryz.ntmps18
  go_wp2_with fail
  refine (HP1.out _).mono ?_
  rintro e w1 ⟨rfl, rfl⟩
  go_wp2_with fail
  refine (HS1.out _).mono ?_
  rintro e w1 ⟨rfl, rfl⟩
  by_cases hb : (b1 && b2) = true
  · have HV := Lib.hid (HU.out.trans (if_pos hb))
    obtain ⟨rfl, rfl⟩ : b1 = true ∧ b2 = true := by simpa using hb
    clear hb
    go_wp2_with fail
    go_ret3
    rw [HV.out]
    exact ⟨rfl, rfl⟩
  · have HV := Lib.hid (HU.out.trans (if_neg hb))
    clear HU
    cases b1
    all_goals cases b2
    all_goals cases b3
    all_goals try (exact absurd rfl hb)
    all_goals
      go_wp2_with fail
      refine (HP2.out _).mono ?_
      rintro e w1 ⟨rfl, rfl⟩
      go_wp2_with fail
      refine (HS2.out _).mono ?_
      rintro e w1 ⟨rfl, rfl⟩
      go_wp2_with fail
      go_ret3
      rw [HV.out]
      exact ⟨rfl, rfl⟩
end Go.Proofs.YtkpaopfdnfgjeaaGreatDoor
