/-
  Contracts of Add and Sub.
-/
import Derived.Test.YtfhmdlpjeiockaaDoorSub
import Derived.Test.YtfhmdlpjeiockaaDoorComp
namespace Go.Proofs.YtfhmdlpjeiockaaDoor
open Go.RowKit

theorem Pcs.add_len {p q r : List Nat} {a b c n : Nat} (hp : Pcs p a) (hq : Pcs q b) (hr : Pcs r c) (hc : c = a + b) (h1 : p.length ≤ n) (h2 : q.length ≤ n) : r.length ≤ n + 1 := by
  refine hr.len_of_lt ?_
  have k1 := pv_lt p hp.lt
  have k2 := pv_lt q hq.lt
  rw [hp.val] at k1
  rw [hq.val] at k2
  have k3 : (1000000000 : Nat) ^ p.length ≤ 1000000000 ^ n := Nat.pow_le_pow_right (by decide) h1
  have k4 : (1000000000 : Nat) ^ q.length ≤ 1000000000 ^ n := Nat.pow_le_pow_right (by decide) h2
  rw [hc, Nat.pow_succ]; omega


/-- the ways of Sub behind the quick one -/
theorem sub_size {a b : Nat} (ha : (str a).size ≤ 450000) (h : b ≤ a) : (str b).size ≤ 450000 := Nat.le_trans (size_mono h) ha


end Go.Proofs.YtfhmdlpjeiockaaDoor
