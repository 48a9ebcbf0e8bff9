/-
  The contract of add.
-/
import Derived.Test.YtfhmdlpjeiockaaDoorShort
namespace Go.Proofs.YtfhmdlpjeiockaaDoor
open Go.RowKit

theorem add_step {L : List Nat} {k T : Nat} (hk : k < L.length) (h0 : L[k] = 0) :
    pv (L.set k (T % 1000000000)) + 1000000000 ^ (k + 1) * (T / 1000000000) = pv L + 1000000000 ^ k * T := by
  have h1 := pv_set (T % 1000000000) hk
  rw [h0] at h1
  have h2 : 1000000000 ^ (k + 1) * (T / 1000000000) + 1000000000 ^ k * (T % 1000000000) = 1000000000 ^ k * T := by
    rw [Nat.pow_succ, Nat.mul_assoc, ← Nat.mul_add, Nat.div_add_mod]
  omega



end Go.Proofs.YtfhmdlpjeiockaaDoor
