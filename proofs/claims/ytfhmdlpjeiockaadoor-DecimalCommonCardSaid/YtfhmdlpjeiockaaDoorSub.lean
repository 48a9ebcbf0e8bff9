/-
  The contract of subtract.
-/
import Derived.Test.YtfhmdlpjeiockaaDoorAdd
import Derived.Test.YtfhmdlpjeiockaaDoorNum
namespace Go.Proofs.YtfhmdlpjeiockaaDoor
open Go.RowKit

theorem sub_step {L : List Nat} {k v c bo y x bo' pa pb : Nat} (hk : k < L.length) (h0 : L[k] = 0) (hI : pv L + pb = pa + 1000000000 ^ k * bo) (hv : v + c = x + 1000000000 * bo') (hc : c = bo + y) :
    pv (L.set k v) + (pb + 1000000000 ^ k * y) = (pa + 1000000000 ^ k * x) + 1000000000 ^ (k + 1) * bo' := by
  have h1 := pv_set v hk
  rw [h0] at h1
  have h2 : 1000000000 ^ k * (v + c) = 1000000000 ^ k * (x + 1000000000 * bo') := by rw [hv]
  have h3 : 1000000000 ^ k * (v + c) = 1000000000 ^ k * v + 1000000000 ^ k * bo + 1000000000 ^ k * y := by rw [hc, Nat.mul_add, Nat.mul_add]; omega
  have h4 : 1000000000 ^ k * (x + 1000000000 * bo') = 1000000000 ^ k * x + 1000000000 ^ (k + 1) * bo' := by rw [Nat.mul_add, ← Nat.mul_assoc, ← Nat.pow_succ]
  rw [h3, h4] at h2
  generalize 1000000000 ^ (k + 1) * bo' = A at *
  generalize 1000000000 ^ k * v = V at *
  generalize 1000000000 ^ k * bo = O at *
  generalize 1000000000 ^ k * y = Y at *
  generalize 1000000000 ^ k * x = X at *
  omega
theorem Pcs.len_mono {p q : List Nat} {a b : Nat} (hp : Pcs p a) (hq : Pcs q b) (h : b ≤ a) : q.length ≤ p.length := by
  refine hq.len_of_lt ?_
  have := pv_lt p hp.lt
  rw [hp.val] at this; omega

end Go.Proofs.YtfhmdlpjeiockaaDoor
