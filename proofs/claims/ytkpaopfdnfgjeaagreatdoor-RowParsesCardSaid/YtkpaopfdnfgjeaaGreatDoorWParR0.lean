/-
  The reference's Parse: the words of a text, found one after another.
-/
import Derived.Test.YtkpaopfdnfgjeaaGreatDoorWVal
import Derived.Test.YtkpaopfdnfgjeaaGreatDoorWSeq
namespace Go.Proofs.YtkpaopfdnfgjeaaGreatDoor
open Go.RowKit

theorem ext_mid (s : ByteArray) (a b : Nat) : (s.extract a b).data.toList = (s.data.toList.drop a).take (b - a) := by
  rw [show (s.extract a b).data = s.data.extract a b from ByteArray.data_extract .., Array.toList_extract]
/-- what lies between the brackets -/
def midS (s : ByteArray) : List UInt8 := (s.data.toList.drop 1).take (s.size - 2)
theorem mid_drop {s : ByteArray} {k : Nat} (h1 : 1 ≤ k) (h2 : k + 2 ≤ s.size) : (midS s).drop (k - 1) = (s[k]'(by omega)) :: (midS s).drop k := by
  obtain ⟨j, rfl⟩ : ∃ j, k = j + 1 := ⟨k - 1, by omega⟩
  have hl : j < (midS s).length := by unfold midS; rw [List.length_take, List.length_drop, wlen_list]; omega
  have e : (midS s)[j]? = some (s[j + 1]'(by omega)) := by
    unfold midS
    rw [List.getElem?_take_of_lt (by omega), List.getElem?_drop, List.getElem?_eq_getElem (by rw [wlen_list]; omega)]
    have := wat_list s (1 + j) (by omega)
    rw [this]
    congr 2; omega
  rw [List.getElem?_eq_getElem hl, Option.some.injEq] at e
  rw [Nat.add_sub_cancel, List.drop_eq_getElem_cons hl, e]
theorem mid_end (s : ByteArray) : (midS s).drop (s.size - 2) = [] := List.drop_eq_nil_of_le (by unfold midS; rw [List.length_take]; omega)
theorem acc_snoc {s : ByteArray} {f k : Nat} (h1 : f ≤ k) (h2 : k < s.size) : (s.extract f (k + 1)).data.toList = (s.extract f k).data.toList ++ [s[k]'h2] := by
  rw [ext_mid, ext_mid, show k + 1 - f = (k - f) + 1 by omega, List.take_succ_eq_append_getElem (by rw [List.length_drop, wlen_list]; omega)]
  congr 2
  rw [List.getElem_drop]
  have := wat_list s k h2
  rw [← this]
  congr 1; omega
/-- how far the words have come -/
def StR (s : ByteArray) (f k : Nat) (ws : List (List UInt8)) : Prop :=
  1 ≤ f ∧ f ≤ k ∧ k ≤ s.size ∧ ((k + 1 ≤ s.size ∧ wordsL (midS s) = ws ++ splW (s.extract f k).data.toList ((midS s).drop (k - 1))) ∨ (k = s.size ∧ wordsL (midS s) = ws))
theorem StR.start {s : ByteArray} (h : 2 < s.size) : StR s 1 1 [] := by
  refine ⟨Nat.le_refl _, Nat.le_refl _, by omega, .inl ⟨by omega, ?_⟩⟩
  rw [ext_mid]; simp [wordsL]
theorem StR.cont {s : ByteArray} {f k : Nat} {ws : List (List UInt8)} (h : StR s f k ws) (hk : k + 2 ≤ s.size) (hc : (s[k]'(by omega)) ≠ 32) : StR s f (k + 1) ws := by
  obtain ⟨h1, h2, h3, h4⟩ := h
  refine ⟨h1, by omega, by omega, .inl ⟨by omega, ?_⟩⟩
  rcases h4 with ⟨-, h4⟩ | ⟨h4, -⟩
  · rw [h4, mid_drop (by omega) hk, splW_cons, if_neg hc, acc_snoc h2 (by omega)]; rfl
  · omega
theorem StR.word {s : ByteArray} {f k : Nat} {ws : List (List UInt8)} (h : StR s f k ws) (hk : k < s.size) (hc : (s[k]'hk) = 32 ∨ k + 1 = s.size) (h2s : 2 < s.size) :
    (∃ r, wordsL (midS s) = ws ++ (s.extract f k).data.toList :: r) ∧ StR s (k + 1) (k + 1) (ws ++ [(s.extract f k).data.toList]) := by
  obtain ⟨h1, h2, h3, h4⟩ := h
  rcases h4 with ⟨-, h4⟩ | ⟨h4, -⟩
  · by_cases he : k + 1 = s.size
    · have e : k - 1 = s.size - 2 := by omega
      rw [e, mid_end] at h4
      have h5 : wordsL (midS s) = ws ++ [(s.extract f k).data.toList] := h4
      exact ⟨⟨[], h5⟩, by omega, Nat.le_refl _, by omega, .inr ⟨he, h5⟩⟩
    · have hc2 : (s[k]'hk) = 32 := by rcases hc with h | h; exact h; exact absurd h he
      rw [mid_drop (by omega) (by omega), splW_cons, if_pos hc2] at h4
      refine ⟨⟨_, h4⟩, by omega, Nat.le_refl _, by omega, .inl ⟨by omega, ?_⟩⟩
      have e : (s.extract (k + 1) (k + 1)).data.toList = [] := by rw [ext_mid]; simp
      rw [h4, e, Nat.add_sub_cancel]; simp
  · omega
theorem StR.done {s : ByteArray} {f : Nat} {ws : List (List UInt8)} (h : StR s f s.size ws) : wordsL (midS s) = ws := by
  rcases h.2.2.2 with ⟨h4, -⟩ | ⟨-, h4⟩
  · omega
  · exact h4
/-- first byte, middle, last byte -/
theorem mid_list {s : ByteArray} (h : 2 ≤ s.size) : s.data.toList = (s[0]'(by omega)) :: (midS s ++ [s[s.size - 1]'(by omega)]) := by
  have e0 : s.data.toList = (s[0]'(by omega)) :: s.data.toList.drop 1 := by
    have := List.drop_eq_getElem_cons (l := s.data.toList) (i := 0) (by rw [wlen_list]; omega)
    rw [List.drop_zero, wat_list s 0 (by omega)] at this; exact this
  rw [e0]
  congr 1
  have hl : (s.data.toList.drop 1).length = s.size - 1 := by rw [List.length_drop, wlen_list]
  have e1 := List.take_succ_eq_append_getElem (l := s.data.toList.drop 1) (i := s.size - 2) (by rw [hl]; omega)
  rw [show s.size - 2 + 1 = s.size - 1 by omega, List.take_of_length_le (by rw [hl]; exact Nat.le_refl _)] at e1
  rw [e1]
  unfold midS
  congr 2
  rw [List.getElem_drop]
  have := wat_list s (s.size - 1) (by omega)
  rw [← this]
  congr 1; omega
theorem unw_mid {s : ByteArray} (h : 2 ≤ s.size) (k : Bool) (hk : if k = true then (s[0]'(by omega)) = 91 ∧ (s[s.size - 1]'(by omega)) = 62 else (s[0]'(by omega)) = 60 ∧ (s[s.size - 1]'(by omega)) = 93) : unwL s.data.toList = (midS s, k, true) := by
  rw [mid_list h]
  cases k with
  | true => rw [if_pos rfl] at hk; rw [hk.1, hk.2]; exact unw_ket _
  | false => rw [if_neg (by decide)] at hk; rw [hk.1, hk.2]; exact unw_bra _
theorem unw_none {s : ByteArray} (h : s.size < 2 ∨ ∃ h2 : 2 ≤ s.size, ¬ ((s[0]'(by omega)) = 91 ∧ (s[s.size - 1]'(by omega)) = 62) ∧ ¬ ((s[0]'(by omega)) = 60 ∧ (s[s.size - 1]'(by omega)) = 93)) : parM s.data.toList = ([], false, 15) := by
  have e : (unwL s.data.toList).2.2 = false := by
    rcases h with h | ⟨h2, h3, h4⟩
    · exact unw_short (by rw [wlen_list]; exact h)
    · rw [mid_list h2]; exact unw_no _ _ _ h3 h4
  unfold parM; rw [if_pos e]
/-- what the reference finds -/
def limB (ws : List (List UInt8)) : Bool := !(ws.all fun x => entB (intV x))
theorem lim_snoc (ws : List (List UInt8)) (x : List UInt8) : limB (ws ++ [x]) = (limB ws || !entB (intV x)) := by
  unfold limB; rw [List.all_append]; cases ws.all (fun x => entB (intV x)) <;> simp
theorem val_ok {x : List UInt8} (h : canB x = true) (he : entB (intV x) = true) : valV x = intV x := by
  unfold valV
  rw [if_neg]
  intro hl
  rw [can_long h hl] at he; cases he
theorem ref_ok {ws : List (List UInt8)} (hc : ws.all canB = true) (hl : limB ws = false) (h64 : ws.length ≤ 64) : okB (ws.map intV) = true ∧ ws.map valV = ws.map intV := by
  have ha : ws.all (fun x => entB (intV x)) = true := by unfold limB at hl; simpa using hl
  refine ⟨okB_good (by rw [List.length_map]; exact h64) (by rw [List.all_map]; exact ha), ?_⟩
  apply List.map_congr_left
  intro x hx
  exact val_ok (List.all_eq_true.1 hc x hx) (List.all_eq_true.1 ha x hx)
theorem ref_bad {ws : List (List UInt8)} (h : limB ws = true ∨ 64 < ws.length) : okB (ws.map intV) = false := by
  rcases h with h | h
  · cases ho : okB (ws.map intV) with
    | false => rfl
    | true =>
      have : ws.all (fun x => entB (intV x)) = true := by
        rw [List.all_eq_true]; intro x hx
        exact entB_iff.2 (okB_ent ho (List.mem_map.2 ⟨x, hx, rfl⟩))
      unfold limB at h; rw [this] at h; cases h
  · exact okB_long (by rw [List.length_map]; exact h)
end Go.Proofs.YtkpaopfdnfgjeaaGreatDoor
