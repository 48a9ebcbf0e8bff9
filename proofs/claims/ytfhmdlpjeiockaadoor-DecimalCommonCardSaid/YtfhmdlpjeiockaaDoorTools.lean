/-
  The walk of the law DecimalLaws.
-/
import Derived.Test.YtfhmdlpjeiockaaDoorKnown
import Derived.Test.YtfhmdlpjeiockaaDoorAddSub
namespace Go.Proofs.YtfhmdlpjeiockaaDoor
open Go.RowKit

theorem IsRow.len_bd {k : IntKind} {w : World} {a : Option Addr} {len cap : Nat} {zs : List Int} (h : IsRow k w a len cap zs) : len ≤ 9223372036854775807 := by
  rcases h with ⟨_, h, _⟩ | ⟨x, _, h2, h3, _⟩
  · omega
  · unfold maxLen at h3; omega
theorem size120 {n m : Nat} (h : n < 10 ^ (min m 120)) : (str n).size ≤ 120 :=
  str_big (Nat.lt_of_lt_of_le h (Nat.pow_le_pow_right (by decide) (Nat.min_le_right _ _))) (by decide)
theorem size_add {a b n m : Nat} (ha : (str a).size ≤ n) (hb : (str b).size ≤ m) : (str (a + b)).size ≤ n + m + 1 := by
  refine str_big ?_ (by omega)
  have h1 := lt_of_size ha
  have h2 := lt_of_size hb
  have h3 : 10 ^ n ≤ 10 ^ (n + m) := Nat.pow_le_pow_right (by decide) (by omega)
  have h4 : 10 ^ m ≤ 10 ^ (n + m) := Nat.pow_le_pow_right (by decide) (by omega)
  rw [Nat.pow_succ]; omega

theorem mulTo {x y z : Nat} (h : x * y = z) (w : World) (hs : Std w) (hx : (str x).size ≤ 450000) (hy : (str y).size ≤ 450000) :
    Calls Tryd.prog 35 #[.string (str x), .string (str y)] w fun e w' => e = .returned (.string (str z)) ∧ Below w.heap.size w w' := by
  rw [← h]; exact mul_any x y w hs hx hy

set_option maxHeartbeats 400000 in
theorem few_yes (a1 a2 a3 : Option Addr) (l1 l2 l3 c1 c2 c3 : Nat) (w : World) (k1 : l1 ≤ 120) (k2 : l2 ≤ 120) (k3 : l3 ≤ 120) :
    Calls Tryd.prog 6 #[.slice a1 l1 c1, .slice a2 l2 c2, .slice a3 l3 c3] w fun e w' => e = .returned (.bool true) ∧ w = w' := by
  have e3 : decide ((l3 : Int) ≤ 120) = true := by simp; omega
  go_enter Tryd.func6, Tryd.ntmps6
  go_wp2
  go_ret
  exact ⟨by first | rfl | exact ret_bool e3, rfl⟩
set_option maxHeartbeats 400000 in
theorem few_no (a1 a2 a3 : Option Addr) (l1 l2 l3 c1 c2 c3 : Nat) (w : World) (h : ¬ (l1 ≤ 120 ∧ l2 ≤ 120 ∧ l3 ≤ 120)) (h1 : l1 ≤ 9223372036854775807) (h2 : l2 ≤ 9223372036854775807) (h3 : l3 ≤ 9223372036854775807) :
    Calls Tryd.prog 6 #[.slice a1 l1 c1, .slice a2 l2 c2, .slice a3 l3 c3] w fun e w' => e = .returned (.bool false) ∧ w = w' := by
  by_cases k1 : l1 ≤ 120
  · by_cases k2 : l2 ≤ 120
    · have k3 : ¬ l3 ≤ 120 := fun k => h ⟨k1, k2, k⟩
      have e3 : decide ((l3 : Int) ≤ 120) = false := by simp; omega
      clear h
      go_enter Tryd.func6, Tryd.ntmps6
      go_wp2
      go_ret
      exact ⟨by first | rfl | exact ret_bool e3, rfl⟩
    · clear h
      go_enter Tryd.func6, Tryd.ntmps6
      go_wp2
      go_ret
      exact ⟨rfl, rfl⟩
  · clear h
    go_enter Tryd.func6, Tryd.ntmps6
    go_wp2
    go_ret
    exact ⟨rfl, rfl⟩
end Go.Proofs.YtfhmdlpjeiockaaDoor
