/-
  Sums in two parts: the program's parts, the reference's sum.
-/
import Derived.Test.YtkpaopfdnfgjeaaGreatDoorWLeaf
import Derived.RegionTactic
namespace Go.Proofs.YtkpaopfdnfgjeaaGreatDoor
open Go.RowKit

/-- the parts of a product -/
structure Spl (P q r : Int) : Prop where
  quo : P.tdiv 1000000000 = q
  rem : P.tmod 1000000000 = r
  val : q * 1000000000 + r = P
  qlo : -1000000000 ≤ q
  qhi : q ≤ 1000000000
  rlo : -999999999 ≤ r
  rhi : r ≤ 999999999
theorem spl_of (P : Int) (h1 : -1000000000000000000 ≤ P) (h2 : P ≤ 1000000000000000000) : ∃ q r, Spl P q r := by
  by_cases h : 0 ≤ P
  · refine ⟨P / 1000000000, P % 1000000000, ⟨?_, ?_, by omega, by omega, by omega, by omega, by omega⟩⟩
    · exact Int.tdiv_eq_ediv_of_nonneg h
    · exact Int.tmod_eq_emod_of_nonneg h
  · refine ⟨-((-P) / 1000000000), -((-P) % 1000000000), ⟨?_, ?_, by omega, by omega, by omega, by omega, by omega⟩⟩
    · have := Int.tdiv_eq_ediv_of_nonneg (a := -P) (b := 1000000000) (by omega)
      rw [Int.neg_tdiv] at this; omega
    · have := Int.tmod_eq_emod_of_nonneg (a := -P) (b := 1000000000) (by omega)
      rw [Int.neg_tmod] at this; omega
/-- the value of a sum's parts -/
theorem spl_low (L : Int) (h1 : -100000000000000 ≤ L) (h2 : L ≤ 100000000000000) : ∃ q r, Spl L q r ∧ -100000 ≤ q ∧ q ≤ 100000 := by
  obtain ⟨q, r, h⟩ := spl_of L (by omega) (by omega)
  obtain ⟨a, b, c, d, e, f, g⟩ := h
  exact ⟨q, r, ⟨a, b, c, d, e, f, g⟩, by omega, by omega⟩
theorem in64 {x : Int} (h1 : -9223372036854775808 ≤ x) (h2 : x ≤ 9223372036854775807) : IntKind.i64.wrap x = x := IntWalk.i64_in _ ⟨h1, h2⟩

set_option maxHeartbeats 800000 in
theorem addP_any (B : Nat) (U L P q r : Int) (w : World) (hs : Spl P q r) (c0 : w.cell? ⟨B, 0, none⟩ = some (.int .i64 U)) (c1 : w.cell? ⟨B, 1, none⟩ = some (.int .i64 L))
    (f0 : w.frozen? ⟨B, 0, none⟩ = false) (f1 : w.frozen? ⟨B, 1, none⟩ = false) (u1 : -1000000000000 ≤ U) (u2 : U ≤ 1000000000000) (l1 : -1000000000000 ≤ L) (l2 : L ≤ 1000000000000) :
    Calls Tryz.prog 28 #[.pointer (some ⟨B, 0, none⟩), .int .i64 P] w fun e w' => e = .returned (.tuple #[]) ∧ w' = (w.setCell ⟨B, 0, none⟩ (.int .i64 (U + q))).setCell ⟨B, 1, none⟩ (.int .i64 (L + r)) := by
  obtain ⟨hq, hr, hv, q1, q2, r1, r2⟩ := hs
  have HV := Lib.hid hv
  have w1 := in64 (x := U + q) (by omega) (by omega)
  have w2 := in64 (x := L + r) (by omega) (by omega)
  have w3 := in64 (x := q) (by omega) (by omega)
  clear hv
  go_enter Tryz.func28, Tryz.ntmps28
  go_wp2
  refine bodyPost_end (results_none rfl _ _ _) rfl ?_
  exact ⟨rfl, rfl⟩

/-- what a sum answers -/
def sumV (S : Int) : Int := if entB S = true then S else 0
def sumE (S : Int) : Int := if entB S = true then 0 else 4
theorem sumE_ok {S : Int} (h : entB S = true) : sumE S = 0 := if_pos h
theorem sumV_ok {S : Int} (h : entB S = true) : sumV S = S := if_pos h
theorem sumE_no {S : Int} (h : entB S = false) : sumE S = 4 := if_neg (by simp [h])
theorem sumV_no {S : Int} (h : entB S = false) : sumV S = 0 := if_neg (by simp [h])
theorem entB_no {S : Int} (h : S < -1000000000 ∨ 1000000000 < S) : entB S = false := by
  unfold entB; rcases h with h | h
  · simp; intro h1; omega
  · simp; intro _; omega

set_option maxHeartbeats 1600000 in
theorem entry_any (U L : Int) (w : World) (u1 : -1000000000000 ≤ U) (u2 : U ≤ 1000000000000) (l1 : -100000000000000 ≤ L) (l2 : L ≤ 100000000000000) :
    Calls Tryz.prog 29 #[.agg #[.int .i64 U, .int .i64 L]] w fun e w' => e = .returned (.tuple #[.int .i64 (sumV (U * 1000000000 + L)), .int .i64 (sumE (U * 1000000000 + L))]) ∧ Below w.heap.size w w' := by
  obtain ⟨q, r, hs, p1, p2⟩ := spl_low L l1 l2
  obtain ⟨hq, hr, hv, q1, q2, r1, r2⟩ := hs
  obtain ⟨S, hS⟩ : ∃ S, S = U * 1000000000 + L := ⟨_, rfl⟩
  rw [← hS]
  have hS2 : S = (U + q) * 1000000000 + r := by omega
  obtain ⟨u, hu⟩ : ∃ u, u = U + q := ⟨_, rfl⟩
  rw [← hu] at hS2
  have w1 := in64 (x := u) (by omega) (by omega)
  have w3 := in64 (x := q) (by omega) (by omega)
  have hu' : U + q = u := hu.symm
  have HS := Lib.hid hS
  have HS2 := Lib.hid hS2
  have HM := Lib.hid (fun wx => magN_any u wx (by omega) (by omega))
  have ha := absI_nn u
  have hub : -1000000200000 ≤ u ∧ u ≤ 1000000200000 := by omega
  by_cases h1 : 1 < absI u
  · have HA := Lib.hid h1
    have HE := Lib.hid (show entB S = false from entB_no (by
      unfold absI at h1; split at h1 <;> omega))
    obtain ⟨A, hA⟩ : ∃ A, A = absI u := ⟨_, rfl⟩
    rw [← hA] at HM h1 ha
    clear hS hS2 hv hu hA
    go_enter Tryz.func29, Tryz.ntmps29
    go_wp2_with fail
    go_quiet (fail)
    go_wp2_with fail
    refine (HM.out _).mono ?_
    rintro e w1 ⟨rfl, rfl⟩
    go_wp2_with fail
    go_ret2
    exact ⟨by rw [sumV_no HE.out, sumE_no HE.out]; rfl, below_drewN ((Below.refl _ _).alloc (Nat.le_refl _) _) _⟩
  · have h1' : absI u ≤ 1 := by omega
    have hu1 : -1 ≤ u ∧ u ≤ 1 := by unfold absI at h1'; split at h1' <;> omega
    have HE := Lib.hid (fun wx => isEntry_any S wx)
    obtain ⟨A, hA⟩ : ∃ A, A = absI u := ⟨_, rfl⟩
    rw [← hA] at HM h1' ha
    have m1 := in64 (x := u * 1000000000) (by omega) (by omega)
    have m2 : u * 1000000000 + r = S := hS2.symm
    have m3 := in64 (x := S) (by omega) (by omega)
    clear hS hS2 hv hu hA h1
    cases he : entB S with
    | true =>
      rw [he] at HE
      have HE2 := Lib.hid he
      clear he
      go_enter Tryz.func29, Tryz.ntmps29
      go_wp2_with fail
      go_quiet (fail)
      go_wp2_with fail
      refine (HM.out _).mono ?_
      rintro e w1 ⟨rfl, rfl⟩
      go_wp2_with fail
      refine (HE.out _).mono ?_
      rintro e w1 ⟨rfl, rfl⟩
      go_wp2_with fail
      go_ret2
      exact ⟨by rw [sumV_ok HE2.out, sumE_ok HE2.out]; rfl, below_drewN ((Below.refl _ _).alloc (Nat.le_refl _) _) _⟩
    | false =>
      rw [he] at HE
      have HE2 := Lib.hid he
      clear he
      go_enter Tryz.func29, Tryz.ntmps29
      go_wp2_with fail
      go_quiet (fail)
      go_wp2_with fail
      refine (HM.out _).mono ?_
      rintro e w1 ⟨rfl, rfl⟩
      go_wp2_with fail
      refine (HE.out _).mono ?_
      rintro e w1 ⟨rfl, rfl⟩
      go_wp2_with fail
      go_ret2
      exact ⟨by rw [sumV_no HE2.out, sumE_no HE2.out]; rfl, below_drewN ((Below.refl _ _).alloc (Nat.le_refl _) _) _⟩
end Go.Proofs.YtkpaopfdnfgjeaaGreatDoor
