/-
  The reference's Bits.
-/
import Derived.Test.YtfhmdlpjeiockaaDoorRefDiv
namespace Go.Proofs.YtfhmdlpjeiockaaDoor
open Go.RowKit

theorem divR_any (a b : Nat) (w : World) (ha : (str a).size ≤ 400000) (hb : (str b).size ≤ 400000) (hb0 : 0 < b) :
    Calls Tryd.prog 14 #[.string (str a), .string (str b)] w fun e w' => e = .returned (.tuple #[.string (str (a / b)), .string (str (a % b))]) ∧ Below w.heap.size w w' := by
  by_cases h : (str a).size ≤ 18 ∧ (str b).size ≤ 18
  · exact divR_small a b w h.1 h.2 hb0
  · exact divR_big a b w ha hb hb0 h
theorem str30 : str 1073741824 = ⟨#[49, 48, 55, 51, 55, 52, 49, 56, 50, 52]⟩ := (str_eq _ (by decide) (by decide)).symm
theorem two_le {a m s : Nat} (h : 2 ^ m ≤ a) (hs : (str a).size ≤ s) : m ≤ 4 * s := by
  have h1 := lt_of_size hs
  have h2 : (10 : Nat) ^ s ≤ (2 ^ 4) ^ s := Nat.pow_le_pow_left (by decide) _
  rw [← Nat.pow_mul] at h2
  have h3 : 2 ^ m < 2 ^ (4 * s) := by omega
  exact Nat.le_of_lt ((Nat.pow_lt_pow_iff_right (a := 2) (by decide)).1 h3)
theorem div_pos_le {X j : Nat} (h : 0 < X / 2 ^ j) : 2 ^ j ≤ X := by
  apply Nat.le_of_not_lt; intro h1
  rw [Nat.div_eq_of_lt h1] at h; omega
theorem bits_end {X j : Nat} (h : X / 2 ^ j = 0) (h0 : j = 0 ∨ 0 < X / 2 ^ (j - 1)) : BitsOf X j := by
  refine ⟨?_, ?_⟩
  · rcases Nat.div_eq_zero_iff.1 h with h1 | h1
    · exact absurd h1 (Nat.ne_of_gt (Nat.pow_pos (by decide)))
    · exact h1
  · rcases h0 with h0 | h0
    · exact .inl h0
    · exact .inr (div_pos_le h0)
theorem strval (X : Nat) : val (str X).data.toList = X := by rw [str_list]; exact val_dd X

end Go.Proofs.YtfhmdlpjeiockaaDoor
