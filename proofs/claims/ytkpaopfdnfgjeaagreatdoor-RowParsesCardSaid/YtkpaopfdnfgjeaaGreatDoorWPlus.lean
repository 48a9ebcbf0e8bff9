/-
  Add and Sub of rows.
-/
import Derived.Test.YtkpaopfdnfgjeaaGreatDoorWKnown
import Derived.RangeFuncBox
import Derived.Maps.AppendAt
namespace Go.Proofs.YtkpaopfdnfgjeaaGreatDoor
open Go.RowKit Go.Shelf

attribute [local go_sem] Oper.semAt_some

theorem Two.mono {n₀ m₀ : Nat} {W : World} {a : Option Addr} {len : Nat} {a' : Option Addr} {f : Nat → EPair} (h : Two n₀ W a len a' f) (hm : n₀ ≤ m₀) : Two m₀ W a len a' f := by
  rcases h with h | ⟨b, off, b', off', e1, e2, hb, hb', h1, h2⟩
  · exact .inl h
  · exact .inr ⟨b, off, b', off', e1, e2, by omega, by omega, h1, h2⟩
theorem Rd.of_owns {W : World} {B : Nat} {v : Value} {k : Nat} {l : List Int} (h : W.ownsRow B 3 1 v k (ci l)) (hk : l.length = k) (hb : ∀ z ∈ l, -9223372036854775808 ≤ z ∧ z ≤ 9223372036854775807) : ∃ a cap, v = .slice a k cap ∧ Rd W a k cap l := by
  have h0 := h
  rcases h.2 with ⟨hv, hl⟩ | ⟨g, cap, cur, rfl, _, _, _⟩
  · have e : l = [] := List.eq_nil_of_length_eq_zero (hk.trans hl)
    subst e
    obtain rfl : k = 0 := hk.symm
    exact ⟨none, 0, hv, Rd.nil W⟩
  · subst hk
    exact ⟨some ⟨g, 0, none⟩, cap, rfl, RowI.rd (B := B) h0 hb⟩
theorem Rd.put {W : World} {a : Option Addr} {n cap : Nat} {l : List Int} (h : Rd W a n cap l) {D : Nat} {o : Obj} (hD : W.heap[D]? = some o) (hc : o.isCells = false) (o' : Obj) : Rd (W.putObj D o') a n cap l := by
  obtain ⟨h1, h2, h3, h4, h5⟩ := h
  refine ⟨h1, h2, h3, h4, ?_⟩
  rcases h5 with h5 | ⟨b, off, e, hlt, hcell⟩
  · exact .inl h5
  · exact .inr ⟨b, off, e, Nat.lt_of_lt_of_le hlt (grownBy_putObj' W D o').size, fun i hi => cell_kept (hcell i hi) (grownBy_putObj' W D o') (fun r e => by cases e; exact ⟨o, hD, hc⟩)⟩
/-- sums of elements -/
def plusL (s : Int) (xs ys : List Int) : List Int := (List.range xs.length).map fun k => xs[k]?.getD 0 + s * ys[k]?.getD 0
theorem plusL_upto {xs ys : List Int} (ox : okB xs = true) (oy : okB ys = true) (s : Int) : (upto (pairF ox oy) xs.length).map (fun x => x.1.1 + s * x.1.2) = plusL s xs ys := by
  unfold upto plusL; rw [List.map_map]; rfl
theorem plus_el {s : Int} (hs : s = 1 ∨ s = -1) (x : EPair) : (-1000000000 ≤ s * x.1.2 ∧ s * x.1.2 ≤ 1000000000) ∧ -2000000000 ≤ x.1.1 + s * x.1.2 ∧ x.1.1 + s * x.1.2 ≤ 2000000000 := by
  have h1 := x.2.1
  have h2 := x.2.2
  rcases hs with rfl | rfl <;> omega
theorem plusL_bd {xs ys : List Int} (ox : okB xs = true) (oy : okB ys = true) {s : Int} (hs : s = 1 ∨ s = -1) : ∀ z ∈ plusL s xs ys, -9223372036854775808 ≤ z ∧ z ≤ 9223372036854775807 := by
  intro z hz
  rw [← plusL_upto ox oy s] at hz
  obtain ⟨x, _, rfl⟩ := List.mem_map.1 hz
  have := plus_el hs x
  show _ ≤ x.1.1 + s * x.1.2 ∧ x.1.1 + s * x.1.2 ≤ _
  omega
def plusV (s : Int) (xs ys : List Int) : List Int := if pairE xs ys = 0 then chkV (plusL s xs ys) else []
def plusE (s : Int) (xs ys : List Int) : Int := if pairE xs ys = 0 then errR (plusL s xs ys) else pairE xs ys



theorem pairE_cases {xs ys : List Int} (h : pairE xs ys = 0) : okB xs = true ∧ okB ys = true ∧ xs.length = ys.length := by
  unfold pairE at h
  cases ox : okB xs with
  | false => rw [if_neg (by simp [ox])] at h; cases h
  | true =>
    rw [if_pos ox] at h
    cases oy : okB ys with
    | false => rw [if_neg (by simp [oy])] at h; cases h
    | true =>
      rw [if_pos oy] at h
      by_cases hl : xs.length = ys.length
      · exact ⟨rfl, rfl, hl⟩
      · rw [if_neg hl] at h; cases h


end Go.Proofs.YtkpaopfdnfgjeaaGreatDoor
