/-
  Words of a row's text: plain words.
-/
import Derived.Test.YtkpaopfdnfgjeaaGreatDoorWPlain
import Derived.Lib.AtoiAll
import Derived.Lib.AtoiAllCases
import Derived.Lib.Bytealg
import Derived.Lib.ItoaNum
import Derived.Lib.ItoaMem
import Derived.Lib.Join
import Derived.Lib.Strings
import Derived.Lib.SlTrimSet
namespace Go.Proofs.YtkpaopfdnfgjeaaGreatDoor

def isDg (c : UInt8) : Bool := decide (48 ≤ c.toNat) && decide (c.toNat ≤ 57)
theorem isDg_bd {c : UInt8} (h : isDg c = true) : 48 ≤ c.toNat ∧ c.toNat ≤ 57 := by unfold isDg at h; simpa using h
/-- digits without a leading zero -/
def natB (l : List UInt8) : Bool := l.all isDg && (l.length == 1 || (decide (1 < l.length) && !(l.head? == some 48)))
theorem natB_of {l : List UInt8} (ha : l.all isDg = true) : natB l = (l.length == 1 || (decide (1 < l.length) && !(l.head? == some 48))) := by unfold natB; rw [ha]; rfl
theorem natB_no {l : List UInt8} (ha : l.all isDg = false) : natB l = false := by unfold natB; rw [ha]; rfl

/-- the value of digits -/
def stepD (a : Nat) (c : UInt8) : Nat := a * 10 + (c.toNat - 48)
def dvalF (a : Nat) (l : List UInt8) : Nat := l.foldl stepD a
def dval (l : List UInt8) : Nat := dvalF 0 l
theorem dvalF_nil (a : Nat) : dvalF a [] = a := by unfold dvalF; rw [List.foldl_nil]
theorem dvalF_cons (a : Nat) (c : UInt8) (l : List UInt8) : dvalF a (c :: l) = dvalF (a * 10 + (c.toNat - 48)) l := by unfold dvalF; rw [List.foldl_cons, stepD]
theorem dvalF_snoc (l : List UInt8) (c : UInt8) (a : Nat) : dvalF a (l ++ [c]) = dvalF a l * 10 + (c.toNat - 48) := by unfold dvalF; rw [List.foldl_append, List.foldl_cons, List.foldl_nil, stepD]
theorem dval_snoc (l : List UInt8) (c : UInt8) : dval (l ++ [c]) = dval l * 10 + (c.toNat - 48) := dvalF_snoc l c 0
theorem dvalF_ge : ∀ (l : List UInt8) (a : Nat), a * 10 ^ l.length ≤ dvalF a l := by
  intro l
  induction l with
  | nil => intro a; rw [dvalF_nil, List.length_nil, Nat.pow_zero, Nat.mul_one]; exact Nat.le_refl _
  | cons c r ih =>
    intro a
    rw [dvalF_cons, List.length_cons, Nat.pow_succ]
    have h := ih (a * 10 + (c.toNat - 48))
    have e : a * (10 ^ r.length * 10) = a * 10 * 10 ^ r.length := by rw [Nat.mul_comm (10 ^ r.length) 10, Nat.mul_assoc]
    rw [e]
    exact Nat.le_trans (Nat.mul_le_mul_right _ (by omega)) h
theorem dvalF_lt : ∀ (l : List UInt8) (a : Nat), l.all isDg = true → dvalF a l < (a + 1) * 10 ^ l.length := by
  intro l
  induction l with
  | nil => intro a _; rw [dvalF_nil, List.length_nil, Nat.pow_zero, Nat.mul_one]; exact Nat.lt_succ_self _
  | cons c r ih =>
    intro a h
    rw [List.all_cons, Bool.and_eq_true] at h
    have hc := isDg_bd h.1
    rw [dvalF_cons, List.length_cons, Nat.pow_succ]
    refine Nat.lt_of_lt_of_le (ih _ h.2) ?_
    rw [Nat.mul_comm (10 ^ r.length) 10, ← Nat.mul_assoc]
    exact Nat.mul_le_mul_right _ (by omega)
theorem dval_lt {l : List UInt8} (h : l.all isDg = true) : dval l < 10 ^ l.length := by have := dvalF_lt l 0 h; rw [Nat.zero_add, Nat.one_mul] at this; exact this
/-- what parseUint10 gives of digits -/
theorem pu_digits : ∀ (l : List UInt8) (a : Nat), l.all isDg = true → a < 18446744073709551616 →
    (dvalF a l < 18446744073709551616 ∧ Lib.parseUint10 a l = .ok (dvalF a l)) ∨ (18446744073709551616 ≤ dvalF a l ∧ Lib.parseUint10 a l = .range) := by
  intro l
  induction l with
  | nil => intro a _ ha; exact .inl ⟨ha, rfl⟩
  | cons c r ih =>
    intro a h ha
    rw [List.all_cons, Bool.and_eq_true] at h
    have hc := isDg_bd h.1
    have hge := dvalF_ge r (a * 10 + (c.toNat - 48))
    have hp : 1 ≤ 10 ^ r.length := Nat.pow_pos (by decide)
    have hge2 : a * 10 + (c.toNat - 48) ≤ dvalF (a * 10 + (c.toNat - 48)) r := Nat.le_trans (Nat.le_mul_of_pos_right _ hp) hge
    rw [dvalF_cons]
    simp only [Lib.parseUint10]
    rw [if_pos hc]
    by_cases h1 : 1844674407370955162 ≤ a
    · rw [if_pos h1]; exact .inr ⟨by omega, rfl⟩
    · rw [if_neg h1]
      by_cases h2 : 18446744073709551616 ≤ a * 10 + (c.toNat - 48)
      · rw [if_pos h2]; exact .inr ⟨by omega, rfl⟩
      · rw [if_neg h2]; exact ih _ h.2 (by omega)

/-- an integer in canonical form -/
def canB (l : List UInt8) : Bool := if 1 < l.length ∧ l.head? = some 45 then (!(l.tail.head? == some 48)) && natB l.tail else natB l
/-- its value -/
def intV (l : List UInt8) : Int := if l.head? = some 45 then -(dval l.tail : Int) else (dval l : Int)
/-- what Atoi gives -/
def atoV (l : List UInt8) : Int := match Lib.atoiAll l with | .ok v => v | _ => Lib.atoiSat l

theorem natB_digits {l : List UInt8} (h : natB l = true) : l.all isDg = true := by unfold natB at h; rw [Bool.and_eq_true] at h; exact h.1
theorem natB_ne {l : List UInt8} (h : natB l = true) : l ≠ [] := by rintro rfl; revert h; decide
theorem natB_head {l : List UInt8} (h : natB l = true) : l.head? ≠ some 45 := by
  cases l with
  | nil => decide
  | cons c r =>
    have := natB_digits h
    rw [List.all_cons, Bool.and_eq_true] at this
    have hb := isDg_bd this.1
    intro e
    rw [List.head?_cons, Option.some.injEq] at e
    rw [e] at hb; revert hb; decide
theorem natB_big {l : List UInt8} (h : natB l = true) (h1 : 1 < l.length) : 10 ^ (l.length - 1) ≤ dval l := by
  have hd := natB_digits h
  cases l with
  | nil => simp at h1
  | cons c r =>
    unfold natB at h
    rw [Bool.and_eq_true, Bool.or_eq_true] at h
    have hz : c ≠ 48 := by
      rcases h.2 with h2 | h2
      · rw [beq_iff_eq] at h2; omega
      · rw [Bool.and_eq_true] at h2; intro e; rw [e] at h2; simp at h2
    rw [List.all_cons, Bool.and_eq_true] at hd
    have hb := isDg_bd hd.1
    have hc : 49 ≤ c.toNat := by
      rcases Nat.lt_or_ge c.toNat 49 with h4 | h4
      · exfalso; apply hz; rw [← UInt8.toNat_inj]; show _ = 48; omega
      · exact h4
    have hge := dvalF_ge r (0 * 10 + (c.toNat - 48))
    show _ ≤ dvalF _ r
    refine Nat.le_trans ?_ hge
    have e : (c :: r).length - 1 = r.length := by simp
    rw [e]
    exact Nat.le_mul_of_pos_left _ (by omega)
theorem can_cases {l : List UInt8} (h : canB l = true) : (natB l = true ∧ intV l = (dval l : Int)) ∨ ∃ r, l = 45 :: r ∧ natB r = true ∧ r.head? ≠ some 48 ∧ intV l = -(dval r : Int) := by
  unfold canB at h
  by_cases hc : 1 < l.length ∧ l.head? = some 45
  · rw [if_pos hc, Bool.and_eq_true] at h
    cases l with
    | nil => simp at hc
    | cons c r =>
      obtain ⟨-, hh⟩ := hc
      rw [List.head?_cons, Option.some.injEq] at hh
      subst hh
      rw [List.tail_cons] at h
      refine .inr ⟨r, rfl, h.2, ?_, ?_⟩
      · intro e; rw [e] at h; simp at h
      · unfold intV; rw [if_pos (by simp)]; rfl
  · rw [if_neg hc] at h
    refine .inl ⟨h, ?_⟩
    unfold intV; rw [if_neg (natB_head h)]

theorem ato_nat {l : List UInt8} (h : natB l = true) : (Lib.atoiAll l = .ok (dval l : Int) ∧ dval l < 9223372036854775808) ∨ (Lib.atoiAll l = .range ∧ Lib.atoiSat l = 9223372036854775807 ∧ 9223372036854775808 ≤ dval l) := by
  have hd := natB_digits h
  cases l with
  | nil => exact absurd rfl (natB_ne h)
  | cons c r =>
    have hc : isDg c = true := by rw [List.all_cons, Bool.and_eq_true] at hd; exact hd.1
    have hb := isDg_bd hc
    rw [Lib.atoiAll_plain c r (by omega) (by omega), Lib.atoiSat_other c r (by omega)]
    unfold Lib.parseMag
    rw [if_neg (by simp)]
    rcases pu_digits (c :: r) 0 hd (by decide) with ⟨h1, h2⟩ | ⟨h1, h2⟩
    · rw [h2]
      by_cases h3 : 9223372036854775808 ≤ dvalF 0 (c :: r)
      · exact .inr ⟨if_pos h3, rfl, h3⟩
      · exact .inl ⟨if_neg h3, by show dvalF 0 _ < _; omega⟩
    · rw [h2]; exact .inr ⟨rfl, rfl, by show _ ≤ dvalF 0 _; omega⟩
theorem ato_neg {r : List UInt8} (h : natB r = true) : (Lib.atoiAll (45 :: r) = .ok (-(dval r : Int)) ∧ dval r ≤ 9223372036854775808) ∨ (Lib.atoiAll (45 :: r) = .range ∧ Lib.atoiSat (45 :: r) = -9223372036854775808 ∧ 9223372036854775808 < dval r) := by
  have hd := natB_digits h
  rw [Lib.atoiAll_minus r, Lib.atoiSat_minus r]
  unfold Lib.parseMag
  rw [if_neg (natB_ne h)]
  rcases pu_digits r 0 hd (by decide) with ⟨h1, h2⟩ | ⟨h1, h2⟩
  · rw [h2]
    by_cases h3 : 9223372036854775808 < dvalF 0 r
    · exact .inr ⟨if_pos h3, rfl, h3⟩
    · exact .inl ⟨if_neg h3, by show dvalF 0 _ ≤ _; omega⟩
  · rw [h2]; exact .inr ⟨rfl, rfl, by show _ < dvalF 0 _; omega⟩
/-- Atoi of a canonical word: a number, or too great -/
theorem ato_can {l : List UInt8} (h : canB l = true) : (Lib.atoiAll l = .ok (atoV l)) ∨ (Lib.atoiAll l = .range ∧ atoV l = Lib.atoiSat l) := by
  rcases can_cases h with ⟨h1, -⟩ | ⟨r, rfl, h1, -, -⟩
  · rcases ato_nat h1 with ⟨h2, -⟩ | ⟨h2, -, -⟩
    · exact .inl (by unfold atoV; rw [h2])
    · exact .inr ⟨h2, by unfold atoV; rw [h2]⟩
  · rcases ato_neg h1 with ⟨h2, -⟩ | ⟨h2, -, -⟩
    · exact .inl (by unfold atoV; rw [h2])
    · exact .inr ⟨h2, by unfold atoV; rw [h2]⟩
theorem ato_bd (l : List UInt8) : -9223372036854775808 ≤ atoV l ∧ atoV l ≤ 9223372036854775807 := by
  unfold atoV
  cases h : Lib.atoiAll l
  all_goals first
    | exact Lib.atoiAll_bounds h
    | exact Lib.atoiSat_bounds l
theorem ato_int {l : List UInt8} (h : canB l = true) : entB (atoV l) = entB (intV l) ∧ (entB (intV l) = true → atoV l = intV l) := by
  rcases can_cases h with ⟨h1, e1⟩ | ⟨r, rfl, h1, -, e1⟩
  · rcases ato_nat h1 with ⟨h2, h3⟩ | ⟨h2, h3, h4⟩
    · have e : atoV l = (dval l : Int) := by unfold atoV; rw [h2]
      rw [e, e1]; exact ⟨rfl, fun _ => rfl⟩
    · have e : atoV l = 9223372036854775807 := by unfold atoV; rw [h2]; exact h3
      rw [e, e1]
      have f1 : entB (dval l : Int) = false := by unfold entB; simp; omega
      rw [f1]; exact ⟨by decide, fun h => by cases h⟩
  · rcases ato_neg h1 with ⟨h2, h3⟩ | ⟨h2, h3, h4⟩
    · have e : atoV (45 :: r) = -(dval r : Int) := by unfold atoV; rw [h2]
      rw [e, e1]; exact ⟨rfl, fun _ => rfl⟩
    · have e : atoV (45 :: r) = -9223372036854775808 := by unfold atoV; rw [h2]; exact h3
      rw [e, e1]
      have f1 : entB (-(dval r : Int)) = false := by unfold entB; simp; omega
      rw [f1]; exact ⟨by decide, fun h => by cases h⟩
/-- a long word is too great -/
theorem can_long {l : List UInt8} (h : canB l = true) (hl : 11 < l.length) : entB (intV l) = false := by
  rcases can_cases h with ⟨h1, e1⟩ | ⟨r, rfl, h1, -, e1⟩
  · have hb := natB_big h1 (by omega)
    have hp : 10 ^ 11 ≤ 10 ^ (l.length - 1) := Nat.pow_le_pow_right (by decide) (by omega)
    rw [e1]
    unfold entB; simp; omega
  · simp at hl
    have hb := natB_big h1 (by omega)
    have hp : 10 ^ 10 ≤ 10 ^ (r.length - 1) := Nat.pow_le_pow_right (by decide) (by omega)
    rw [e1]
    unfold entB; simp; omega

/-- the words between blanks -/
def splW (acc : List UInt8) : List UInt8 → List (List UInt8)
  | [] => [acc]
  | c :: r => if c = 32 then acc :: splW [] r else splW (acc ++ [c]) r
theorem splW_cons (acc : List UInt8) (c : UInt8) (r : List UInt8) : splW acc (c :: r) = if c = 32 then acc :: splW [] r else splW (acc ++ [c]) r := rfl
def wordsL (l : List UInt8) : List (List UInt8) := splW [] l
theorem splW_none : ∀ (l acc : List UInt8), Lib.indexByte l 32 = -1 → splW acc l = [acc ++ l] := by
  intro l
  induction l with
  | nil => intro acc _; simp [splW]
  | cons c r ih =>
    intro acc h
    have hge := Lib.indexByte_ge r 32
    unfold Lib.indexByte at h
    by_cases hc : c = 32
    · rw [hc] at h; simp at h
    · rw [if_neg (by simpa using hc)] at h
      by_cases h1 : Lib.indexByte r 32 = -1
      · rw [splW_cons, if_neg hc, ih _ h1]; simp
      · rw [if_neg (by simpa using h1)] at h; omega
theorem splW_some : ∀ (l acc : List UInt8) (i : Nat), Lib.indexByte l 32 = (i : Int) → splW acc l = (acc ++ l.take i) :: splW [] (l.drop (i + 1)) ∧ i < l.length := by
  intro l
  induction l with
  | nil => intro acc i h; unfold Lib.indexByte at h; omega
  | cons c r ih =>
    intro acc i h
    have hge := Lib.indexByte_ge r 32
    unfold Lib.indexByte at h
    by_cases hc : c = 32
    · rw [hc] at h
      simp at h
      obtain rfl : i = 0 := by omega
      rw [splW_cons, if_pos hc]; simp
    · rw [if_neg (by simpa using hc)] at h
      by_cases h1 : Lib.indexByte r 32 = -1
      · rw [if_pos (by simpa using h1)] at h; omega
      · rw [if_neg (by simpa using h1)] at h
        obtain ⟨j, hj⟩ : ∃ j : Nat, Lib.indexByte r 32 = (j : Int) := ⟨(Lib.indexByte r 32).toNat, by omega⟩
        obtain rfl : i = j + 1 := by omega
        obtain ⟨h2, h3⟩ := ih (acc ++ [c]) j hj
        rw [splW_cons, if_neg hc, h2]
        exact ⟨by simp, by simp; omega⟩
theorem words_none {l : List UInt8} (h : Lib.indexByte l 32 = -1) : wordsL l = [l] := by unfold wordsL; rw [splW_none l [] h]; rfl
theorem words_some {l : List UInt8} {i : Nat} (h : Lib.indexByte l 32 = (i : Int)) : wordsL l = l.take i :: wordsL (l.drop (i + 1)) ∧ i < l.length := by
  have := splW_some l [] i h; unfold wordsL; exact ⟨by rw [this.1]; rfl, this.2⟩
theorem splW_len : ∀ (l acc : List UInt8), (splW acc l).length ≤ l.length + 1 := by
  intro l
  induction l with
  | nil => intro acc; simp [splW]
  | cons c r ih =>
    intro acc
    rw [splW_cons]
    by_cases hc : c = 32
    · rw [if_pos hc, List.length_cons, List.length_cons]; have := ih []; omega
    · rw [if_neg hc, List.length_cons]; have := ih (acc ++ [c]); omega
theorem splW_app : ∀ (x : List UInt8), (∀ c ∈ x, c ≠ 32) → ∀ acc l, splW acc (x ++ l) = splW (acc ++ x) l := by
  intro x
  induction x with
  | nil => intro _ acc l; simp
  | cons c r ih =>
    intro h acc l
    rw [List.cons_append]
    rw [splW_cons]
    rw [if_neg (h c (by simp)), ih (fun d hd => h d (by simp [hd]))]
    simp
theorem words_join : ∀ (ws : List (List UInt8)), ws ≠ [] → (∀ x ∈ ws, ∀ c ∈ x, c ≠ 32) → wordsL (Lib.join ws [32]) = ws := by
  intro ws
  cases ws with
  | nil => intro h; exact absurd rfl h
  | cons x r =>
    intro hne h
    clear hne
    rw [Lib.join_cons]
    have h0 := h x (by simp)
    have hr : ∀ y ∈ r, ∀ c ∈ y, c ≠ 32 := fun y hy => h y (by simp [hy])
    clear h
    unfold wordsL
    rw [splW_app x h0, List.nil_append]
    induction r generalizing x with
    | nil => simp [Lib.joinTail, splW]
    | cons y r ih =>
      have e : Lib.joinTail [32] (y :: r) = 32 :: (y ++ Lib.joinTail [32] r) := by simp [Lib.joinTail]
      rw [e]
      rw [splW_cons, if_pos rfl, splW_app y (hr y (by simp)), List.nil_append, ih y (hr y (by simp)) (fun z hz => hr z (by simp [hz]))]

/-- the digits of a number -/
theorem dd_all (n : Nat) : (Lib.decDigits n).all isDg = true := by
  induction n using Nat.strongRecOn with
  | _ n ih =>
    by_cases h : n < 10
    · rw [Lib.decDigits_one h]
      have : (UInt8.ofNat (48 + n)).toNat = 48 + n := by simp; omega
      simp only [List.all_cons, List.all_nil, isDg, this]
      simp; omega
    · rw [Lib.decDigits, dif_neg h, List.all_append, ih (n / 10) (by omega)]
      have : (UInt8.ofNat (48 + n % 10)).toNat = 48 + n % 10 := by simp; omega
      simp only [List.all_cons, List.all_nil, isDg, this]
      simp; omega
theorem dd_val (n : Nat) : dval (Lib.decDigits n) = n := by
  induction n using Nat.strongRecOn with
  | _ n ih =>
    by_cases h : n < 10
    · rw [Lib.decDigits_one h]
      have : (UInt8.ofNat (48 + n)).toNat = 48 + n := by simp; omega
      show 0 * 10 + ((UInt8.ofNat (48 + n)).toNat - 48) = n
      rw [this]; omega
    · rw [Lib.decDigits, dif_neg h, dval_snoc, ih (n / 10) (by omega)]
      have : (UInt8.ofNat (48 + n % 10)).toNat = 48 + n % 10 := by simp; omega
      rw [this]; omega
theorem dd_head (n : Nat) (h : 1 ≤ n) : (Lib.decDigits n).head? ≠ some 48 := by
  induction n using Nat.strongRecOn with
  | _ n ih =>
    by_cases h1 : n < 10
    · rw [Lib.decDigits_one h1, List.head?_cons]
      intro e
      rw [Option.some.injEq, ← UInt8.toNat_inj] at e
      have : (UInt8.ofNat (48 + n)).toNat = 48 + n := by simp; omega
      rw [this] at e
      have e2 : (48 : UInt8).toNat = 48 := rfl
      omega
    · rw [Lib.decDigits, dif_neg h1]
      have := ih (n / 10) (by omega) (by omega)
      cases hd : Lib.decDigits (n / 10) with
      | nil =>
        have hl := Lib.decDigits_length (n / 10)
        have hp := Lib.nDigits_pos (n / 10)
        rw [hd] at hl; simp at hl; omega
      | cons c r => rw [hd] at this; simpa using this
theorem dd_nat (n : Nat) : natB (Lib.decDigits n) = true := by
  rw [natB_of (dd_all n), Lib.decDigits_length]
  have hp := Lib.nDigits_pos n
  by_cases h : n < 10
  · rw [Lib.nDigits_small h]; rfl
  · have h1 := dd_head n (by omega)
    have h2 : 1 < Lib.nDigits n := by rw [Lib.nDigits_big h]; have := Lib.nDigits_pos (n / 10); omega
    simp [h1, h2]
theorem can_itoa (z : Int) : canB (Lib.itoa z) = true ∧ intV (Lib.itoa z) = z ∧ ∀ c ∈ Lib.itoa z, c ≠ 32 := by
  have hns : ∀ n : Nat, ∀ c ∈ Lib.decDigits n, c ≠ 32 := by
    intro n c hc e
    have := isDg_bd (List.all_eq_true.1 (dd_all n) c hc)
    rw [e] at this; revert this; decide
  by_cases h : z < 0
  · obtain ⟨n, rfl⟩ : ∃ n : Nat, z = -(n : Int) := ⟨z.natAbs, by omega⟩
    rw [Lib.itoa_neg n (by omega)]
    have hl : 1 ≤ (Lib.decDigits n).length := by rw [Lib.decDigits_length]; exact Lib.nDigits_pos n
    refine ⟨?_, ?_, ?_⟩
    · unfold canB
      rw [if_pos ⟨by simp; omega, rfl⟩, List.tail_cons, dd_nat]
      have := dd_head n (by omega)
      simpa using this
    · unfold intV; rw [if_pos (by simp), List.tail_cons, dd_val]
    · intro c hc
      rcases List.mem_cons.1 hc with rfl | hc
      · decide
      · exact hns n c hc
  · obtain ⟨n, rfl⟩ : ∃ n : Nat, z = (n : Int) := ⟨z.natAbs, by omega⟩
    rw [Lib.itoa_nonneg]
    have h1 := natB_head (dd_nat n)
    refine ⟨?_, ?_, hns n⟩
    · unfold canB; rw [if_neg (fun h => h1 h.2)]; exact dd_nat n
    · unfold intV; rw [if_neg h1, dd_val]
/-- what unwrap answers: the inner text, whether it is a ket, whether it is a row's text at all -/
def unwL (l : List UInt8) : List UInt8 × Bool × Bool :=
  if (Lib.hasPrefix l [91] && Lib.hasSuffix (Lib.trimPrefix l [91]) [62]) = true then (Lib.trimSuffix (Lib.trimPrefix l [91]) [62], true, true)
  else (Lib.trimSuffix (Lib.trimPrefix l [60]) [93], false, Lib.hasPrefix l [60] && Lib.hasSuffix (Lib.trimPrefix l [60]) [93])
theorem trimP_len (l p : List UInt8) : (Lib.trimPrefix l p).length ≤ l.length := by
  unfold Lib.trimPrefix; split <;> simp
theorem trimS_len (l p : List UInt8) : (Lib.trimSuffix l p).length ≤ l.length := by
  unfold Lib.trimSuffix; split
  · rw [List.length_take]; omega
  · exact Nat.le_refl _
theorem unwL_len (l : List UInt8) : (unwL l).1.length ≤ l.length := by
  unfold unwL; split
  · exact Nat.le_trans (trimS_len _ _) (trimP_len _ _)
  · exact Nat.le_trans (trimS_len _ _) (trimP_len _ _)
theorem hasP_cons (c d : UInt8) (x : List UInt8) : Lib.hasPrefix (c :: x) [d] = (d == c) := by unfold Lib.hasPrefix; simp [List.isPrefixOf]
theorem hasS_snoc (c d : UInt8) (x : List UInt8) : Lib.hasSuffix (x ++ [c]) [d] = (d == c) := by unfold Lib.hasSuffix; simp [List.isSuffixOf, List.isPrefixOf]
theorem trimP_cons (c : UInt8) (x : List UInt8) : Lib.trimPrefix (c :: x) [c] = x := by unfold Lib.trimPrefix; rw [hasP_cons]; simp
theorem trimS_snoc (c : UInt8) (x : List UInt8) : Lib.trimSuffix (x ++ [c]) [c] = x := by unfold Lib.trimSuffix; rw [hasS_snoc]; simp
theorem unw_ket (m : List UInt8) : unwL (91 :: (m ++ [62])) = (m, true, true) := by
  unfold unwL; rw [hasP_cons, trimP_cons, hasS_snoc, trimS_snoc]; rfl
theorem unw_bra (m : List UInt8) : unwL (60 :: (m ++ [93])) = (m, false, true) := by
  unfold unwL; rw [hasP_cons 60 91, hasP_cons 60 60, trimP_cons, hasS_snoc, trimS_snoc]; rfl
theorem unw_no (c d : UInt8) (m : List UInt8) (h1 : ¬ (c = 91 ∧ d = 62)) (h2 : ¬ (c = 60 ∧ d = 93)) : (unwL (c :: (m ++ [d]))).2.2 = false := by
  unfold unwL
  rw [hasP_cons c 91, hasP_cons c 60]
  have e1 : ((91 : UInt8) == c && Lib.hasSuffix (Lib.trimPrefix (c :: (m ++ [d])) [91]) [62]) = false := by
    by_cases hc : c = 91
    · subst hc
      rw [trimP_cons, hasS_snoc]
      have : d ≠ 62 := fun e => h1 ⟨rfl, e⟩
      simp; exact fun e => this e.symm
    · have : ((91 : UInt8) == c) = false := by simp; exact fun e => hc e.symm
      rw [this]; rfl
  have e2 : ((60 : UInt8) == c && Lib.hasSuffix (Lib.trimPrefix (c :: (m ++ [d])) [60]) [93]) = false := by
    by_cases hc : c = 60
    · subst hc
      rw [trimP_cons, hasS_snoc]
      have : d ≠ 93 := fun e => h2 ⟨rfl, e⟩
      simp; exact fun e => this e.symm
    · have : ((60 : UInt8) == c) = false := by simp; exact fun e => hc e.symm
      rw [this]; rfl
  rw [e1, if_neg (by decide)]
  exact e2
theorem unw_short {l : List UInt8} (h : l.length < 2) : (unwL l).2.2 = false := by
  cases l with
  | nil => decide
  | cons c r =>
    obtain rfl : r = [] := List.eq_nil_of_length_eq_zero (by simp at h; omega)
    unfold unwL
    rw [hasP_cons c 91, hasP_cons c 60]
    have e1 : ((91 : UInt8) == c && Lib.hasSuffix (Lib.trimPrefix [c] [91]) [62]) = false := by
      by_cases hc : c = 91
      · subst hc; decide
      · have : ((91 : UInt8) == c) = false := by simp; exact fun e => hc e.symm
        rw [this]; rfl
    have e2 : ((60 : UInt8) == c && Lib.hasSuffix (Lib.trimPrefix [c] [60]) [93]) = false := by
      by_cases hc : c = 60
      · subst hc; decide
      · have : ((60 : UInt8) == c) = false := by simp; exact fun e => hc e.symm
        rw [this]; rfl
    rw [e1, if_neg (by decide)]
    exact e2

/-- the ten digits -/
def digL : List UInt8 := [48, 49, 50, 51, 52, 53, 54, 55, 56, 57]
theorem dig_fin : ∀ i : Fin 256, digL.contains (UInt8.ofNat i.val) = isDg (UInt8.ofNat i.val) := by decide +kernel
theorem dig_is (c : UInt8) : digL.contains c = isDg c := by
  have h := dig_fin ⟨c.toNat, c.toNat_lt⟩
  have e : UInt8.ofNat c.toNat = c := by rw [← UInt8.toNat_inj]; simp
  rw [e] at h; exact h
theorem dw_all {p : UInt8 → Bool} : ∀ (l : List UInt8), l.all p = false → (l.dropWhile p).all p = false
  | [], h => h
  | c :: r, h => by
    rw [List.dropWhile_cons]
    cases hc : p c with
    | true => rw [List.all_cons, hc, Bool.true_and] at h; simpa using dw_all r h
    | false => simp [hc]
theorem dw_nil {p : UInt8 → Bool} : ∀ (l : List UInt8), l.all p = true → l.dropWhile p = []
  | [], _ => rfl
  | c :: r, h => by
    rw [List.all_cons, Bool.and_eq_true] at h
    rw [List.dropWhile_cons, if_pos h.1, dw_nil r h.2]
theorem dig_all (l : List UInt8) : l.all (digL.contains ·) = l.all isDg := by
  induction l with
  | nil => rfl
  | cons c r ih => rw [List.all_cons, List.all_cons, ih, dig_is]
theorem trim_yes {l : List UInt8} (h : l.all isDg = true) : Lib.trimS l digL = [] := by
  unfold Lib.trimS Lib.trimRightS Lib.trimLeftS
  rw [dw_nil l.reverse (by rw [List.all_reverse, dig_all]; exact h)]; rfl
theorem trim_no {l : List UInt8} (h : l.all isDg = false) : Lib.trimS l digL ≠ [] := by
  unfold Lib.trimS Lib.trimRightS Lib.trimLeftS
  intro e
  have h1 := dw_all l.reverse (p := (digL.contains ·)) (by rw [List.all_reverse, dig_all]; exact h)
  have h2 := dw_all (List.dropWhile (digL.contains ·) l.reverse).reverse (p := (digL.contains ·)) (by rw [List.all_reverse]; exact h1)
  rw [e] at h2; cases h2

/-- what Parse answers -/
def parM (l : List UInt8) : List Int × Bool × Int :=
  if (unwL l).2.2 = false then ([], false, 15)
  else if (unwL l).1 = [] then ([], (unwL l).2.1, 0)
  else if (wordsL (unwL l).1).all canB = true then
    (if okB ((wordsL (unwL l).1).map intV) = true then ((wordsL (unwL l).1).map intV, (unwL l).2.1, 0) else ([], false, 4))
  else ([], false, 15)
theorem ent_map {ws : List (List UInt8)} (h : ws.all canB = true) : (ws.map atoV).all entB = (ws.map intV).all entB ∧ ((ws.map intV).all entB = true → ws.map atoV = ws.map intV) := by
  induction ws with
  | nil => exact ⟨rfl, fun _ => rfl⟩
  | cons x r ih =>
    rw [List.all_cons, Bool.and_eq_true] at h
    obtain ⟨h1, h2⟩ := ih h.2
    obtain ⟨h3, h4⟩ := ato_int h.1
    rw [List.map_cons, List.map_cons, List.all_cons, List.all_cons, h1, h3]
    refine ⟨rfl, fun hh => ?_⟩
    rw [Bool.and_eq_true] at hh
    rw [h4 hh.1, h2 hh.2]
theorem ok_map {ws : List (List UInt8)} (h : ws.all canB = true) : okB (ws.map atoV) = okB (ws.map intV) ∧ (okB (ws.map intV) = true → ws.map atoV = ws.map intV) := by
  obtain ⟨h1, h2⟩ := ent_map h
  unfold okB
  rw [h1, List.length_map, List.length_map]
  exact ⟨rfl, fun hh => h2 (by rw [Bool.and_eq_true] at hh; exact hh.2)⟩
theorem par_text {zs : List Int} (ok : okB zs = true) {l : List UInt8} {ket : Bool} (h : unwL l = (Lib.join (zs.map Lib.itoa) [32], ket, true)) : parM l = (zs, ket, 0) := by
  unfold parM
  rw [h]
  simp only
  rw [if_neg (by decide)]
  by_cases h0 : zs = []
  · subst h0; exact if_pos rfl
  · have hne : zs.map Lib.itoa ≠ [] := by simpa using h0
    have hw := words_join (zs.map Lib.itoa) hne (by
      intro x hx
      obtain ⟨z, -, rfl⟩ := List.mem_map.1 hx
      exact (can_itoa z).2.2)
    have hj : Lib.join (zs.map Lib.itoa) [32] ≠ [] := by
      intro e
      rw [e] at hw
      cases zs with
      | nil => exact h0 rfl
      | cons z r =>
        rw [List.map_cons] at hw
        have e2 : Lib.itoa z = [] := by
          have := congrArg List.head? hw
          simp [wordsL, splW] at this
          exact this
        have := (can_itoa z).1
        rw [e2] at this; revert this; decide
    have hm : (zs.map Lib.itoa).map intV = zs := by
      rw [List.map_map]
      conv => rhs; rw [← List.map_id zs]
      apply List.map_congr_left
      intro z _
      exact (can_itoa z).2.1
    rw [if_neg hj, hw, if_pos (by rw [List.all_eq_true]; intro x hx; obtain ⟨z, -, rfl⟩ := List.mem_map.1 hx; exact (can_itoa z).1), hm, if_pos ok]
end Go.Proofs.YtkpaopfdnfgjeaaGreatDoor
