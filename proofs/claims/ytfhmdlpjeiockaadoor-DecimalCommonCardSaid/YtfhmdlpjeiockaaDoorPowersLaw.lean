/-
  The walk of the law DecimalPowers.
-/
import Derived.Test.YtfhmdlpjeiockaaDoorExpsLaw
import Derived.Test.YtfhmdlpjeiockaaDoorRefMul
namespace Go.Proofs.YtfhmdlpjeiockaaDoor
open Go.RowKit

theorem str1 : str 1 = ⟨#[49]⟩ := (str_eq 1 (by decide) (by decide)).symm
theorem is0 (a : Nat) : ((str a).toList == [48]) = decide (a = 0) := by
  have := str_beq a 0
  rw [str0, show (⟨#[48]⟩ : ByteArray).toList = [48] by rw [tl]] at this; exact this
theorem is1 (a : Nat) : ((str a).toList == [49]) = decide (a = 1) := by
  have := str_beq a 1
  rw [str1, show (⟨#[49]⟩ : ByteArray).toList = [49] by rw [tl]] at this; exact this
theorem size_small {a : Nat} (h : a ≤ 1) : (str a).size ≤ 1 := str_big (by omega) (by decide)
theorem pow_small {a n : Nat} (h : a ≤ 1) : a ^ n ≤ 1 := by
  rcases (show a = 0 ∨ a = 1 by omega) with rfl | rfl
  · cases n <;> simp
  · simp
theorem size_lower {v n : Nat} (h : 10 ^ n ≤ v) : n < (str v).size := by
  apply Nat.lt_of_not_le; intro hle
  have h1 := lt_of_size hle
  omega
theorem pow_big1 {a n q : Nat} (hq : (str a).size = q + 1) (ha : 0 < a) : q * n < (str (a ^ n)).size := by
  refine size_lower ?_
  have h1 := pow_nDigits_le ha
  rw [← str_size, hq] at h1
  rw [Nat.pow_mul]
  exact Nat.pow_le_pow_left h1 n
theorem pow_big2 {a n : Nat} (ha : 2 ≤ a) : n / 4 < (str (a ^ n)).size := by
  refine size_lower ?_
  have h1 : (10 : Nat) ^ (n / 4) ≤ (2 ^ 4) ^ (n / 4) := Nat.pow_le_pow_left (by decide) _
  rw [← Nat.pow_mul] at h1
  have h2 : (2 : Nat) ^ (4 * (n / 4)) ≤ 2 ^ n := Nat.pow_le_pow_right (by decide) (by omega)
  have h3 : 2 ^ n ≤ a ^ n := Nat.pow_le_pow_left ha n
  omega

set_option maxHeartbeats 400000 in
theorem power_neg (s : ByteArray) (n : Int) (w : World) (h : n < 0) :
    Calls Tryd.prog 18 #[.string s, .int .i64 n] w fun e w' => e = .returned (.tuple #[.string ⟨#[]⟩, .int .i64 3]) ∧ w = w' := by
  go_enter Tryd.func18, Tryd.ntmps18
  go_wp2_with fail
  go_ret2
  exact ⟨rfl, rfl⟩


theorem max_bound {q N S : Nat} (h1 : q * N < S) (h2 : N / 4 < S) (hq : q ≤ 19) (hS : S ≤ 20000) : max (wrap64 ((q : Int) * min (N : Int) 30000)) (min (N : Int) 100000 / 4) ≤ 20000 := by
  obtain ⟨m, hm, hm2, hm3⟩ : ∃ m : Nat, min (N : Int) 30000 = (m : Int) ∧ m ≤ N ∧ m ≤ 30000 := ⟨min N 30000, by omega, by omega, by omega⟩
  have h3 : q * m ≤ q * N := Nat.mul_le_mul_left q hm2
  have h4 : q * m ≤ 19 * 30000 := Nat.mul_le_mul hq hm3
  rw [hm, show ((q : Int) * (m : Int)) = ((q * m : Nat) : Int) by push_cast; rfl, show wrap64 ((q * m : Nat) : Int) = ((q * m : Nat) : Int) by unfold wrap64; omega]
  omega

end Go.Proofs.YtfhmdlpjeiockaaDoor
