/-
  Comparisons of rows.
-/
import Derived.Test.YtkpaopfdnfgjeaaGreatDoorWKnown
namespace Go.Proofs.YtkpaopfdnfgjeaaGreatDoor
open Go.RowKit

/-- lexicographic order -/
def cmpL : List Int → List Int → Int
  | [], [] => 0
  | [], _ :: _ => -1
  | _ :: _, [] => 1
  | x :: xs, y :: ys => if x < y then -1 else if y < x then 1 else cmpL xs ys
theorem cmpL_drop {xs ys : List Int} {k : Nat} (hx : k < xs.length) (hy : k < ys.length) : cmpL (xs.drop k) (ys.drop k) = if xs[k] < ys[k] then -1 else if ys[k] < xs[k] then 1 else cmpL (xs.drop (k + 1)) (ys.drop (k + 1)) := by
  rw [List.drop_eq_getElem_cons hx, List.drop_eq_getElem_cons hy]; rfl
theorem cmpL_nil_l (ys : List Int) : cmpL [] ys = if 0 < ys.length then -1 else 0 := by cases ys <;> simp [cmpL]
theorem cmpL_nil_r (xs : List Int) : cmpL xs [] = if 0 < xs.length then 1 else 0 := by cases xs <;> simp [cmpL]
theorem cmpL_zero : ∀ (xs ys : List Int), cmpL xs ys = 0 ↔ xs = ys := by
  intro xs
  induction xs with
  | nil => intro ys; cases ys <;> simp [cmpL]
  | cons x xs ih =>
    intro ys
    cases ys with
    | nil => simp [cmpL]
    | cons y ys =>
      show (if x < y then (-1 : Int) else if y < x then 1 else cmpL xs ys) = 0 ↔ _
      by_cases h1 : x < y
      · rw [if_pos h1]; simp; intro h; omega
      · rw [if_neg h1]
        by_cases h2 : y < x
        · rw [if_pos h2]; simp; intro h; omega
        · rw [if_neg h2, ih]
          have : x = y := by omega
          subst this; simp
theorem cmpL_eqb (xs ys : List Int) : (cmpL xs ys == 0) = decide (xs = ys) := by
  rw [Bool.eq_iff_iff]; simp [cmpL_zero]
/-- behind the common part -/
theorem cmpL_end {xs ys : List Int} {k : Nat} (h : k = xs.length ∨ k = ys.length) (hx : k ≤ xs.length) (hy : k ≤ ys.length) : cmpL (xs.drop k) (ys.drop k) = if xs.length < ys.length then -1 else if ys.length < xs.length then 1 else 0 := by
  rcases h with rfl | rfl
  · rw [List.drop_length, cmpL_nil_l, List.length_drop]
    by_cases h : xs.length < ys.length
    · rw [if_pos h, if_pos (by omega)]
    · rw [if_neg h, if_neg (by omega), if_neg (by omega)]
  · rw [List.drop_length, cmpL_nil_r, List.length_drop]
    by_cases h : ys.length < xs.length
    · rw [if_pos (show 0 < xs.length - ys.length by omega), if_neg (show ¬ xs.length < ys.length by omega), if_pos h]
    · rw [if_neg (show ¬ 0 < xs.length - ys.length by omega), if_neg (show ¬ xs.length < ys.length by omega), if_neg h]

/-- the end of ref.Compare -/
theorem below_dn {w : World} (n : Nat) : Below w.heap.size w (w.drewN n) := below_drewN (Below.refl _ _) _

set_option maxHeartbeats 1600000 in
set_option maxRecDepth 100000 in
theorem compR_any (a a' : Option Addr) (n cap n' cap' : Nat) (xs ys : List Int) (w : World) (hx : Rd w a n cap xs) (hy : Rd w a' n' cap' ys) :
    Calls Tryz.prog 23 #[.slice a n cap, .slice a' n' cap'] w fun e w' => e = .returned (.int .i64 (cmpL xs ys)) ∧ Below w.heap.size w w' := by
  have hc := hx.cap
  have hc' := hy.cap
  have hl := hx.len
  have hl' := hy.len
  rcases hx.ways with ⟨rfl, rfl⟩ | ⟨b, off, rfl, hb, hcell⟩
  · have HE := Lib.hid (cmpL_nil_l ys)
    rw [hl'] at HE
    clear hx hy hl hl'
    by_cases h0 : 0 < n'
    · rw [if_pos h0] at HE
      go_enter Tryz.func23, Tryz.ntmps23
      go_wp2_with fail
      refine wp_loop_rounds 1 ?_
      rw [rounds_succ]
      go_wp2_with fail
      go_ret
      exact ⟨ret_int HE.out.symm, Below.refl _ _⟩
    · rw [if_neg h0] at HE
      obtain rfl : n' = 0 := by omega
      clear h0
      go_enter Tryz.func23, Tryz.ntmps23
      go_wp2_with fail
      refine wp_loop_rounds 1 ?_
      rw [rounds_succ]
      go_wp2_with fail
      go_ret
      exact ⟨ret_int HE.out.symm, Below.refl _ _⟩
  · rcases hy.ways with ⟨rfl, rfl⟩ | ⟨b', off', rfl, hb', hcell'⟩
    · have HE := Lib.hid (cmpL_nil_r xs)
      rw [hl] at HE
      clear hx hy hl hl'
      by_cases h0 : 0 < n
      · rw [if_pos h0] at HE
        go_enter Tryz.func23, Tryz.ntmps23
        go_wp2_with fail
        refine wp_loop_rounds 1 ?_
        rw [rounds_succ]
        go_wp2_with fail
        go_ret
        exact ⟨ret_int HE.out.symm, Below.refl _ _⟩
      · rw [if_neg h0] at HE
        obtain rfl : n = 0 := by omega
        clear h0
        go_enter Tryz.func23, Tryz.ntmps23
        go_wp2_with fail
        refine wp_loop_rounds 1 ?_
        rw [rounds_succ]
        go_wp2_with fail
        go_ret
        exact ⟨ret_int HE.out.symm, Below.refl _ _⟩
    · have HX := Lib.hid hcell
      have HY := Lib.hid hcell'
      have HL := Lib.hid hl
      have HL' := Lib.hid hl'
      clear hx hy hl hl' hcell hcell'
      go_enter Tryz.func23, Tryz.ntmps23
      go_wp2_with fail
      go_loopw [5] (fun iv wr => ∃ k : Nat, iv = .int .i64 k ∧ k ≤ n ∧ k ≤ n' ∧ Hid (cmpL xs ys = cmpL (xs.drop k) (ys.drop k)) ∧ Below w.heap.size w wr) (fun iv _ => n - (intOf iv).toNat)
      case atStart => exact ⟨0, rfl, Nat.zero_le _, Nat.zero_le _, by simp [Hid], Below.refl _ _⟩
      case round =>
        obtain ⟨k, rfl, hk, hk', HA, hbel⟩ := hrel
        have HBL := Lib.hid hbel
        clear hbel
        by_cases hlt : k < n
        · by_cases hlt' : k < n'
          · have hkx : k < xs.length := by rw [HL.out]; exact hlt
            have hky : k < ys.length := by rw [HL'.out]; exact hlt'
            have hcx : wr.cell? ⟨b, off + k, none⟩ = some (.int .i64 (xs[k]'hkx)) := (HBL.out.cell (p := ⟨b, off + k, none⟩) hb).trans (HX.out k hkx)
            have hcy : wr.cell? ⟨b', off' + k, none⟩ = some (.int .i64 (ys[k]'hky)) := (HBL.out.cell (p := ⟨b', off' + k, none⟩) hb').trans (HY.out k hky)
            have HD := Lib.hid (cmpL_drop hkx hky)
            obtain ⟨x, hx⟩ : ∃ x, x = xs[k] := ⟨_, rfl⟩
            obtain ⟨y, hy⟩ : ∃ y, y = ys[k] := ⟨_, rfl⟩
            rw [← hx] at hcx HD
            rw [← hy] at hcy HD
            clear hx hy
            by_cases h1 : x < y
            · have HE := Lib.hid (show cmpL xs ys = -1 by rw [HA.out, HD.out, if_pos h1])
              go_wp2_with fail
              go_quiet (fail)
              go_wp2_with fail
              go_ret
              exact ⟨ret_int HE.out.symm, below_drewN HBL.out _⟩
            · have h1' : y ≤ x := by omega
              by_cases h2 : y < x
              · have HE := Lib.hid (show cmpL xs ys = 1 by rw [HA.out, HD.out, if_neg h1, if_pos h2])
                clear h1
                go_wp2_with fail
                go_quiet (fail)
                go_wp2_with fail
                go_quiet (fail)
                go_wp2_with fail
                go_ret
                exact ⟨ret_int HE.out.symm, below_drewN (below_drewN HBL.out _) _⟩
              · have HE := Lib.hid (show cmpL xs ys = cmpL (xs.drop (k + 1)) (ys.drop (k + 1)) by rw [HA.out, HD.out, if_neg h1, if_neg h2])
                have h2' : x ≤ y := by omega
                clear h1 h2
                go_wp2_with fail
                go_quiet (fail)
                go_wp2_with fail
                go_quiet (fail)
                go_wp2_with fail
                go_roundw
                case rel => exact ⟨k + 1, by go_num, by omega, by omega, HE, below_drewN HBL.out _⟩
                case measure => simp [intOf]; omega
          · have HE := Lib.hid (show cmpL xs ys = 1 by rw [HA.out, cmpL_end (.inr (by rw [HL'.out]; omega)) (by rw [HL.out]; omega) (by rw [HL'.out]; omega), HL.out, HL'.out, if_neg (by omega), if_pos (by omega)])
            have hge : n' ≤ k := by omega
            have hgt : n' < n := by omega
            clear hlt'
            go_wp2_with fail
            go_ret
            exact ⟨ret_int HE.out.symm, HBL.out⟩
        · obtain rfl : k = n := by omega
          clear hlt
          by_cases h3 : k < n'
          · have HE := Lib.hid (show cmpL xs ys = -1 by rw [HA.out, cmpL_end (.inl HL.out.symm) (by rw [HL.out]; omega) (by rw [HL'.out]; omega), HL.out, HL'.out, if_pos h3])
            go_wp2_with fail
            go_ret
            exact ⟨ret_int HE.out.symm, HBL.out⟩
          · have HE := Lib.hid (show cmpL xs ys = 0 by rw [HA.out, cmpL_end (.inl HL.out.symm) (by rw [HL.out]; omega) (by rw [HL'.out]; omega), HL.out, HL'.out, if_neg h3, if_neg (by omega)])
            obtain rfl : k = n' := by omega
            clear h3
            go_wp2_with fail
            go_ret
            exact ⟨ret_int HE.out.symm, HBL.out⟩

theorem equalR_any (a a' : Option Addr) (n cap n' cap' : Nat) (xs ys : List Int) (w : World) (hx : Rd w a n cap xs) (hy : Rd w a' n' cap' ys) :
    Calls Tryz.prog 10 #[.slice a n cap, .slice a' n' cap'] w fun e w' => e = .returned (.bool (decide (xs = ys))) ∧ Below w.heap.size w w' := by
  have HC := Lib.hid (compR_any a a' n cap n' cap' xs ys w hx hy)
  have HE := Lib.hid (cmpL_eqb xs ys)
  obtain ⟨z, hz⟩ : ∃ z, z = cmpL xs ys := ⟨_, rfl⟩
  rw [← hz] at HC HE
  clear hx hy hz
  go_enter Tryz.func10, Tryz.ntmps10
  go_wp2_with fail
  refine HC.out.mono ?_
  rintro e w1 ⟨rfl, h1⟩
  go_wp2_with fail
  go_ret
  exact ⟨ret_bool HE.out, h1⟩
end Go.Proofs.YtkpaopfdnfgjeaaGreatDoor
