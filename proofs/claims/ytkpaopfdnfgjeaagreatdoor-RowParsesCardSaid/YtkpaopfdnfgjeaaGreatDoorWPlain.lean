/-
  Rows of integers: plain words.
-/
namespace Go.Proofs.YtkpaopfdnfgjeaaGreatDoor

/-- an integer that a right row can have -/
def entB (z : Int) : Bool := decide (-1000000000 ≤ z) && decide (z ≤ 1000000000)
/-- a right row -/
def okB (l : List Int) : Bool := decide (l.length ≤ 64) && l.all entB
/-- the error of a row -/
def errR (l : List Int) : Int := if okB l = true then 0 else 4
def zeroB (l : List Int) : Bool := l.all fun z => z == 0
def absI (z : Int) : Int := if z < 0 then -z else z

theorem entB_iff {z : Int} : entB z = true ↔ -1000000000 ≤ z ∧ z ≤ 1000000000 := by unfold entB; simp
theorem okB_len {l : List Int} (h : okB l = true) : l.length ≤ 64 := by unfold okB at h; simp at h; exact h.1
theorem okB_ent {l : List Int} (h : okB l = true) {z : Int} (hz : z ∈ l) : -1000000000 ≤ z ∧ z ≤ 1000000000 := by
  unfold okB at h; simp at h; exact entB_iff.1 (h.2 z hz)
theorem okB_at {l : List Int} (h : okB l = true) (i : Nat) (hi : i < l.length) : -1000000000 ≤ l[i] ∧ l[i] ≤ 1000000000 := okB_ent h (List.getElem_mem hi)
theorem all_take_succ {α : Type} (p : α → Bool) (l : List α) (k : Nat) (h : k < l.length) : (l.take (k + 1)).all p = ((l.take k).all p && p l[k]) := by
  rw [List.take_succ_eq_append_getElem h, List.all_append]; simp
theorem all_false_at {α : Type} {p : α → Bool} {l : List α} {k : Nat} (h : k < l.length) (hd : p l[k] = false) : l.all p = false := by
  rw [List.all_eq_false]; exact ⟨l[k], List.getElem_mem h, by simp [hd]⟩
theorem okB_long {l : List Int} (h : 64 < l.length) : okB l = false := by unfold okB; simp; intro h2; omega
theorem okB_bad {l : List Int} {k : Nat} (h : k < l.length) (hd : entB l[k] = false) : okB l = false := by
  unfold okB; rw [all_false_at h hd]; simp
theorem okB_good {l : List Int} (h : l.length ≤ 64) (ha : l.all entB = true) : okB l = true := by unfold okB; rw [ha]; simp [h]
theorem errR_ok {l : List Int} (h : okB l = true) : errR l = 0 := if_pos h
theorem errR_no {l : List Int} (h : okB l = false) : errR l = 4 := if_neg (by simp [h])
theorem absI_nn (z : Int) : 0 ≤ absI z := by unfold absI; split <;> omega
theorem absI_le {z b : Int} (h1 : -b ≤ z) (h2 : z ≤ b) : absI z ≤ b := by unfold absI; split <;> omega
theorem absI_nat (z : Int) : absI z = (z.natAbs : Int) := by unfold absI; split <;> omega
end Go.Proofs.YtkpaopfdnfgjeaaGreatDoor
