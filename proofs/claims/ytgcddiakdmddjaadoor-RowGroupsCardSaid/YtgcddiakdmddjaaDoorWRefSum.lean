/-
  The reference's sum in two parts.
-/
import Derived.Test.YtgcddiakdmddjaaDoorWParts
namespace Go.Proofs.YtgcddiakdmddjaaDoor
open Go.RowKit

set_option maxHeartbeats 1600000 in
theorem plusS_any (U L a b q r : Int) (w : World) (hs : Spl (a * b) q r) (u1 : -1000000000000 ≤ U) (u2 : U ≤ 1000000000000) (l1 : -1000000000000 ≤ L) (l2 : L ≤ 1000000000000) :
    Calls Tryd.prog 55 #[.agg #[.int .i64 U, .int .i64 L], .int .i64 a, .int .i64 b] w fun e w' => e = .returned (.agg #[.int .i64 (U + q), .int .i64 (L + r)]) ∧ Below w.heap.size w w' := by
  obtain ⟨hq, hr, hv, q1, q2, r1, r2⟩ := hs
  obtain ⟨P, hP⟩ : ∃ P, P = a * b := ⟨_, rfl⟩
  rw [← hP] at hq hr hv
  have hP' : a * b = P := hP.symm
  have w0 := in64 (x := P) (by omega) (by omega)
  have w1 := in64 (x := U + q) (by omega) (by omega)
  have w2 := in64 (x := L + r) (by omega) (by omega)
  have w3 := in64 (x := q) (by omega) (by omega)
  have HV := Lib.hid hv
  clear hv hP
  go_enter Tryd.func55, Tryd.ntmps55
  go_wp2
  refine bodyPost_ret (v := .agg #[.int .i64 (U + q), .int .i64 (L + r)]) (by simp [results, Tryd.results55, go_sem]) rfl ⟨rfl, ?_⟩
  exact ((Below.refl _ _).alloc (Nat.le_refl _) _).alloc (by simp) _

set_option maxHeartbeats 1600000 in
theorem valueS_any (U L : Int) (w : World) (u1 : -1000000000000 ≤ U) (u2 : U ≤ 1000000000000) (l1 : -100000000000000 ≤ L) (l2 : L ≤ 100000000000000) :
    Calls Tryd.prog 56 #[.agg #[.int .i64 U, .int .i64 L]] w fun e w' => (∃ v : Int, e = .returned (.tuple #[.int .i64 v, .bool (entB (U * 1000000000 + L))]) ∧ (entB (U * 1000000000 + L) = true → v = U * 1000000000 + L)) ∧ Below w.heap.size w w' := by
  obtain ⟨q, r, hs, p1, p2⟩ := spl_low L l1 l2
  obtain ⟨hq, hr, hv, q1, q2, r1, r2⟩ := hs
  obtain ⟨S, hS⟩ : ∃ S, S = U * 1000000000 + L := ⟨_, rfl⟩
  rw [← hS]
  have hS2 : S = (U + q) * 1000000000 + r := by omega
  obtain ⟨u, hu⟩ : ∃ u, u = U + q := ⟨_, rfl⟩
  rw [← hu] at hS2
  have w1 := in64 (x := u) (by omega) (by omega)
  have w3 := in64 (x := q) (by omega) (by omega)
  have hu' : U + q = u := hu.symm
  have HS := Lib.hid hS
  have HS2 := Lib.hid hS2
  have hub : -1000000200000 ≤ u ∧ u ≤ 1000000200000 := by omega
  by_cases h1 : 2 < u
  · have HE := Lib.hid (show entB S = false from entB_no (by omega))
    clear hS hS2 hv hu
    go_enter Tryd.func56, Tryd.ntmps56
    go_wp2
    go_ret2
    exact ⟨⟨0, by rw [HE.out]; rfl, fun h => by rw [HE.out] at h; cases h⟩, (Below.refl _ _).alloc (Nat.le_refl _) _⟩
  · by_cases h2 : u < -2
    · have HE := Lib.hid (show entB S = false from entB_no (by omega))
      have h1' : u ≤ 2 := by omega
      clear hS hS2 hv hu h1
      go_enter Tryd.func56, Tryd.ntmps56
      go_wp2
      go_ret2
      exact ⟨⟨0, by rw [HE.out]; rfl, fun h => by rw [HE.out] at h; cases h⟩, (Below.refl _ _).alloc (Nat.le_refl _) _⟩
    · have m1 := in64 (x := u * 1000000000) (by omega) (by omega)
      have m2 : u * 1000000000 + r = S := hS2.symm
      have m3 := in64 (x := S) (by omega) (by omega)
      have h1' : u ≤ 2 := by omega
      have h2' : -2 ≤ u := by omega
      clear hS hS2 hv hu h1 h2
      by_cases h3 : S ≤ 1000000000
      · by_cases h4 : -1000000000 ≤ S
        · have HE := Lib.hid (show entB S = true from entB_iff.2 ⟨h4, h3⟩)
          go_enter Tryd.func56, Tryd.ntmps56
          go_wp2
          go_ret2
          exact ⟨⟨S, by rw [HE.out]; rfl, fun h => rfl⟩, (Below.refl _ _).alloc (Nat.le_refl _) _⟩
        · have HE := Lib.hid (show entB S = false from entB_no (by omega))
          have h4' : decide (-1000000000 ≤ S) = false := decide_eq_false h4
          clear h4
          go_enter Tryd.func56, Tryd.ntmps56
          go_wp2
          go_ret2
          exact ⟨⟨S, by rw [HE.out]; rfl, fun _ => rfl⟩, (Below.refl _ _).alloc (Nat.le_refl _) _⟩
      · have HE := Lib.hid (show entB S = false from entB_no (by omega))
        have h3' : 1000000000 < S := by omega
        clear h3
        go_enter Tryd.func56, Tryd.ntmps56
        go_wp2
        go_ret2
        exact ⟨⟨S, by rw [HE.out]; rfl, fun _ => rfl⟩, (Below.refl _ _).alloc (Nat.le_refl _) _⟩
end Go.Proofs.YtgcddiakdmddjaaDoor
