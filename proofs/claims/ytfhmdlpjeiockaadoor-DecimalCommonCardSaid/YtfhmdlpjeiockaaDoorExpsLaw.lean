/-
  The walk of the law DecimalExponents.
-/
import Derived.Test.YtfhmdlpjeiockaaDoorTools
import Derived.Test.YtfhmdlpjeiockaaDoorBitLen
import Derived.OpenShut
namespace Go.Proofs.YtfhmdlpjeiockaaDoor
open Go.RowKit

set_option maxHeartbeats 800000 in
set_option maxRecDepth 100000 in
theorem pow_ok (a n : Nat) (w : World) (hs : Std w) (ha : (str a).size ≤ 20000) (hn : n < 9223372036854775808) (hsz : (str (a ^ n)).size ≤ 20000) :
    Calls Tryd.prog 18 #[.string (str a), .int .i64 n] w fun e w' => e = .returned (.tuple #[.string (str (a ^ n)), .int .i64 0]) ∧ Below w.heap.size w w' := by
  by_cases h0 : n = 0
  · subst h0
    have h1 : str (a ^ 0) = ⟨#[49]⟩ := by rw [Nat.pow_zero]; exact (str_eq 1 (by decide) (by decide)).symm
    have hcan := Lib.hid (canon_str a)
    rw [h1]
    clear h1
    go_enter Tryd.func18, Tryd.ntmps18
    go_wp2_with (go_at_call 20; refine (canonical_any _ _ (by omega)).mono ?_; rintro e w' ⟨rfl, rfl⟩; rw [hcan.out])
    go_ret2
    exact ⟨rfl, Below.refl _ _⟩
  · refine (power_any a n w hs ha (by omega) hn).mono ?_
    rintro e w' ⟨h, hb⟩
    refine ⟨?_, hb⟩
    rcases h with ⟨_, h⟩ | ⟨h, _⟩
    · exact h
    · omega
theorem powTo {a n m z : Nat} {i : Int} (hi : i = (n : Int)) (h : a ^ n = z) (w : World) (hs : Std w) (ha : (str a).size ≤ m) (hm : m ≤ 20000) (hn : n ≤ 2000) (hsz : (str z).size ≤ 20000) :
    Calls Tryd.prog 18 #[.string (str a), .int .i64 i] w fun e w' => e = .returned (.tuple #[.string (str z), .int .i64 0]) ∧ Below w.heap.size w w' := by
  rw [hi, ← h]; exact pow_ok a n w hs (by omega) (by omega) (by rw [h]; exact hsz)
theorem size_pow_le {a s : Nat} (ha : (str a).size ≤ s) (n : Nat) : (str (a ^ n)).size ≤ s * n + 1 := by
  refine str_big ?_ (by omega)
  have h1 := lt_of_size ha
  have h2 : a ^ n ≤ (10 ^ s) ^ n := Nat.pow_le_pow_left (Nat.le_of_lt h1) n
  rw [← Nat.pow_mul] at h2
  rw [Nat.pow_succ]
  have : 0 < 10 ^ (s * n) := Nat.pow_pos (by decide)
  omega
theorem bits_bound' {z k s : Nat} (h : BitsOf z k) (hs : (str z).size ≤ s) : k ≤ 4 * s + 1 := by
  rcases h.2 with h0 | h0
  · omega
  · have h1 := lt_of_size hs
    have h2 : (10 : Nat) ^ s ≤ (2 ^ 4) ^ s := Nat.pow_le_pow_left (by decide) _
    rw [← Nat.pow_mul] at h2
    have h3 : 2 ^ (k - 1) < 2 ^ (4 * s) := by omega
    have := (Nat.pow_lt_pow_iff_right (a := 2) (by decide)).1 h3
    omega
theorem bits_bound {z k : Nat} (h : BitsOf z k) (hs : (str z).size ≤ 301) : k ≤ 1205 := bits_bound' h hs
theorem str0 : str 0 = ⟨#[48]⟩ := (str_eq 0 (by decide) (by decide)).symm
theorem str2 : str 2 = ⟨#[50]⟩ := (str_eq 2 (by decide) (by decide)).symm

end Go.Proofs.YtfhmdlpjeiockaaDoor
