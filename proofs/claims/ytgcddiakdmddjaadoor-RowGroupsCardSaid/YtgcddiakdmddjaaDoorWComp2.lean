/-
  The program's Equal and Compare.
-/
import Derived.Test.YtgcddiakdmddjaaDoorWComp
namespace Go.Proofs.YtgcddiakdmddjaaDoor
open Go.RowKit

theorem drop_eq {xs ys : List Int} {k : Nat} (hx : k < xs.length) (hy : k < ys.length) : (xs.drop k = ys.drop k) ↔ (xs[k] = ys[k] ∧ xs.drop (k + 1) = ys.drop (k + 1)) := by
  rw [List.drop_eq_getElem_cons hx, List.drop_eq_getElem_cons hy, List.cons.injEq]

set_option maxHeartbeats 1600000 in
set_option maxRecDepth 100000 in
theorem slEqual_any (a a' : Option Addr) (n cap n' cap' : Nat) (xs ys : List Int) (w : World) (hx : Rd w a n cap xs) (hy : Rd w a' n' cap' ys) :
    Calls Tryd.prog 49 #[.slice a n cap, .slice a' n' cap'] w fun e w' => e = .returned (.bool (decide (xs = ys))) ∧ Below w.heap.size w w' := by
  have hc := hx.cap
  have hc' := hy.cap
  have hl := hx.len
  have hl' := hy.len
  by_cases hn : n = n'
  · subst hn
    rcases hx.ways with ⟨rfl, rfl⟩ | ⟨b, off, rfl, hb, hcell⟩
    · obtain rfl : ys = [] := List.eq_nil_of_length_eq_zero hl'
      clear hx hy hl hl'
      go_enter Tryd.func49, Tryd.ntmps49
      go_wp2_with fail
      refine wp_loop_rounds 1 ?_
      rw [rounds_succ]
      go_wp2_with fail
      go_ret
      exact ⟨rfl, Below.refl _ _⟩
    · rcases hy.ways with ⟨rfl, rfl⟩ | ⟨b', off', rfl, hb', hcell'⟩
      · obtain rfl : xs = [] := List.eq_nil_of_length_eq_zero hl
        clear hx hy hl hl'
        go_enter Tryd.func49, Tryd.ntmps49
        go_wp2_with fail
        refine wp_loop_rounds 1 ?_
        rw [rounds_succ]
        go_wp2_with fail
        go_ret
        exact ⟨rfl, Below.refl _ _⟩
      · have HX := Lib.hid hcell
        have HY := Lib.hid hcell'
        have HL := Lib.hid hl
        have HL' := Lib.hid hl'
        clear hx hy hl hl' hcell hcell'
        go_enter Tryd.func49, Tryd.ntmps49
        go_wp2_with fail
        go_loopw [5, 13] (fun _ iv wr => ∃ k : Nat, iv = .int .i64 k ∧ k ≤ n ∧ Hid (xs = ys ↔ xs.drop k = ys.drop k) ∧ Below w.heap.size w wr) (fun _ iv _ => n - (intOf iv).toNat)
        case atStart => exact ⟨0, rfl, Nat.zero_le _, by simp [Hid], Below.refl _ _⟩
        case round =>
          obtain ⟨k, rfl, hk, HA, hbel⟩ := hrel
          have HBL := Lib.hid hbel
          clear hbel
          by_cases hlt : k < n
          · have hkx : k < xs.length := by rw [HL.out]; exact hlt
            have hky : k < ys.length := by rw [HL'.out]; exact hlt
            have hcx : wr.cell? ⟨b, off + k, none⟩ = some (.int .i64 (xs[k]'hkx)) := (HBL.out.cell (p := ⟨b, off + k, none⟩) hb).trans (HX.out k hkx)
            have hcy : wr.cell? ⟨b', off' + k, none⟩ = some (.int .i64 (ys[k]'hky)) := (HBL.out.cell (p := ⟨b', off' + k, none⟩) hb').trans (HY.out k hky)
            have HD := Lib.hid (drop_eq hkx hky)
            obtain ⟨x, hx⟩ : ∃ x, x = xs[k] := ⟨_, rfl⟩
            obtain ⟨y, hy⟩ : ∃ y, y = ys[k] := ⟨_, rfl⟩
            rw [← hx] at hcx HD
            rw [← hy] at hcy HD
            clear hx hy
            by_cases h1 : x = y
            · have HE := Lib.hid (show xs = ys ↔ xs.drop (k + 1) = ys.drop (k + 1) by rw [HA.out, HD.out]; simp [h1])
              subst h1
              go_wp2_with fail
              go_quiet (fail)
              go_wp2_with fail
              go_roundw
              case rel => exact ⟨k + 1, by go_num, by omega, HE, below_drewN HBL.out _⟩
              case measure => simp [intOf]; omega
            · have HE := Lib.hid (show decide (xs = ys) = false from decide_eq_false (by rw [HA.out, HD.out]; exact fun h => h1 h.1))
              have hne : (x != y) = true := by simpa using h1
              clear h1
              go_wp2_with fail
              go_quiet (fail)
              go_wp2_with fail
              go_ret
              exact ⟨ret_bool HE.out.symm, below_drewN HBL.out _⟩
          · obtain rfl : k = n := by omega
            have HE := Lib.hid (show decide (xs = ys) = true from decide_eq_true (by rw [HA.out, List.drop_eq_nil_of_le (by rw [HL.out]; omega), List.drop_eq_nil_of_le (by rw [HL'.out]; omega)]))
            go_wp2_with fail
            go_ret
            exact ⟨ret_bool HE.out.symm, HBL.out⟩
  · have HE := Lib.hid (show decide (xs = ys) = false from decide_eq_false (fun h => hn (by rw [← hl, ← hl', h])))
    have hne : ((n : Int) != (n' : Int)) = true := by simp; omega
    clear hx hy hl hl' hn
    go_enter Tryd.func49, Tryd.ntmps49
    go_wp2_with fail
    go_ret
    exact ⟨ret_bool HE.out.symm, Below.refl _ _⟩
theorem equalN_any (a a' : Option Addr) (n cap n' cap' : Nat) (xs ys : List Int) (w : World) (hx : Rd w a n cap xs) (hy : Rd w a' n' cap' ys) :
    Calls Tryd.prog 18 #[.slice a n cap, .slice a' n' cap'] w fun e w' => e = .returned (.bool (decide (xs = ys))) ∧ Below w.heap.size w w' := by
  have HC := Lib.hid (slEqual_any a a' n cap n' cap' xs ys w hx hy)
  clear hx hy
  go_enter Tryd.func18, Tryd.ntmps18
  go_wp2_with fail
  refine HC.out.mono ?_
  rintro e w1 ⟨rfl, h1⟩
  go_wp2_with fail
  go_ret
  exact ⟨rfl, h1⟩

theorem cmpI_cases (x y : Int) : (x < y ∧ Lib.compareInt x y = -1) ∨ (y < x ∧ Lib.compareInt x y = 1) ∨ (x = y ∧ Lib.compareInt x y = 0) := by
  unfold Lib.compareInt
  by_cases h1 : x < y
  · exact .inl ⟨h1, if_pos h1⟩
  · by_cases h2 : y < x
    · exact .inr (.inl ⟨h2, by rw [if_neg h1, if_pos h2]⟩)
    · exact .inr (.inr ⟨by omega, by rw [if_neg h1, if_neg h2]⟩)

set_option maxHeartbeats 1600000 in
set_option maxRecDepth 100000 in
theorem slComp_any (a a' : Option Addr) (n cap n' cap' : Nat) (xs ys : List Int) (w : World) (hx : Rd w a n cap xs) (hy : Rd w a' n' cap' ys) :
    Calls Tryd.prog 50 #[.slice a n cap, .slice a' n' cap'] w fun e w' => e = .returned (.int .i64 (cmpL xs ys)) ∧ w = w' := by
  have hc := hx.cap
  have hc' := hy.cap
  have hl := hx.len
  have hl' := hy.len
  rcases hx.ways with ⟨rfl, rfl⟩ | ⟨b, off, rfl, hb, hcell⟩
  · have HE := Lib.hid (cmpL_nil_l ys)
    rw [hl'] at HE
    clear hx hy hl hl'
    by_cases h0 : 0 < n'
    · rw [if_pos h0] at HE
      go_enter Tryd.func50, Tryd.ntmps50
      go_wp2_with fail
      refine wp_loop_rounds 1 ?_
      rw [rounds_succ]
      go_wp2_with fail
      go_ret
      exact ⟨ret_int HE.out.symm, rfl⟩
    · rw [if_neg h0] at HE
      obtain rfl : n' = 0 := by omega
      clear h0
      go_enter Tryd.func50, Tryd.ntmps50
      go_wp2_with fail
      refine wp_loop_rounds 1 ?_
      rw [rounds_succ]
      go_wp2_with fail
      go_ret
      exact ⟨ret_int HE.out.symm, rfl⟩
  · have HX := Lib.hid hcell
    have HL := Lib.hid hl
    have HL' := Lib.hid hl'
    rcases hy.ways with ⟨rfl, rfl⟩ | ⟨b', off', rfl, hb', hcell'⟩
    · have HE := Lib.hid (cmpL_nil_r xs)
      rw [hl] at HE
      clear hx hy hl hl' hcell
      by_cases h0 : 0 < n
      · rw [if_pos h0] at HE
        obtain ⟨x, hcx⟩ : ∃ x : Int, w.cell? ⟨b, off, none⟩ = some (.int .i64 x) := ⟨_, HX.out 0 (by rw [HL.out]; exact h0)⟩
        go_enter Tryd.func50, Tryd.ntmps50
        go_wp2_with fail
        refine wp_loop_rounds 1 ?_
        rw [rounds_succ]
        go_wp2_with fail
        go_ret
        exact ⟨ret_int HE.out.symm, rfl⟩
      · rw [if_neg h0] at HE
        obtain rfl : n = 0 := by omega
        clear h0
        go_enter Tryd.func50, Tryd.ntmps50
        go_wp2_with fail
        refine wp_loop_rounds 1 ?_
        rw [rounds_succ]
        go_wp2_with fail
        go_ret
        exact ⟨ret_int HE.out.symm, rfl⟩
    · have HY := Lib.hid hcell'
      clear hx hy hl hl' hcell hcell'
      go_enter Tryd.func50, Tryd.ntmps50
      go_wp2_with fail
      go_loop [5, 6, 7, 8, 11] (fun _ _ _ _ iv => ∃ k : Nat, iv = .int .i64 k ∧ k ≤ n ∧ k ≤ n' ∧ Hid (cmpL xs ys = cmpL (xs.drop k) (ys.drop k))) (fun _ _ _ _ iv => n - (intOf iv).toNat)
      case atStart => exact ⟨0, rfl, Nat.zero_le _, Nat.zero_le _, by simp [Hid]⟩
      case round =>
        obtain ⟨k, rfl, hk, hk', HA⟩ := hrel
        by_cases hlt : k < n
        · have hkx : k < xs.length := by rw [HL.out]; exact hlt
          have hcx := HX.out k hkx
          by_cases hlt' : k < n'
          · have hky : k < ys.length := by rw [HL'.out]; exact hlt'
            have hcy := HY.out k hky
            have HD := Lib.hid (cmpL_drop hkx hky)
            obtain ⟨x, hx⟩ : ∃ x, x = xs[k] := ⟨_, rfl⟩
            obtain ⟨y, hy⟩ : ∃ y, y = ys[k] := ⟨_, rfl⟩
            rw [← hx] at hcx HD
            rw [← hy] at hcy HD
            have HCM := Lib.hid (fun wx => Tryd.cmp_Compare_int x y wx)
            clear hx hy
            rcases cmpI_cases x y with ⟨h1, h2⟩ | ⟨h1, h2⟩ | ⟨h1, h2⟩
            · have HE := Lib.hid (show cmpL xs ys = -1 by rw [HA.out, HD.out, if_pos h1])
              rw [h2] at HCM
              clear h1 h2
              go_wp2_with fail
              refine (HCM.out _).mono ?_
              rintro e w' ⟨rfl, hw⟩
              obtain rfl := hw.symm
              clear hw
              go_wp2_with fail
              go_ret
              exact ⟨ret_int HE.out.symm, rfl⟩
            · have HE := Lib.hid (show cmpL xs ys = 1 by rw [HA.out, HD.out, if_neg (by omega), if_pos h1])
              rw [h2] at HCM
              clear h1 h2
              go_wp2_with fail
              refine (HCM.out _).mono ?_
              rintro e w' ⟨rfl, hw⟩
              obtain rfl := hw.symm
              clear hw
              go_wp2_with fail
              go_ret
              exact ⟨ret_int HE.out.symm, rfl⟩
            · have HE := Lib.hid (show cmpL xs ys = cmpL (xs.drop (k + 1)) (ys.drop (k + 1)) by rw [HA.out, HD.out, if_neg (by omega), if_neg (by omega)])
              rw [h2] at HCM
              clear h1 h2
              go_wp2_with fail
              refine (HCM.out _).mono ?_
              rintro e w' ⟨rfl, hw⟩
              obtain rfl := hw.symm
              clear hw
              go_wp2_with fail
              go_round
              case rel => exact ⟨k + 1, by go_num, by omega, by omega, HE⟩
              case measure => simp [intOf]; omega
          · have HE := Lib.hid (show cmpL xs ys = 1 by rw [HA.out, cmpL_end (.inr (by rw [HL'.out]; omega)) (by rw [HL.out]; omega) (by rw [HL'.out]; omega), HL.out, HL'.out, if_neg (by omega), if_pos (by omega)])
            have hge : n' ≤ k := by omega
            obtain ⟨x, hx⟩ : ∃ x, x = xs[k] := ⟨_, rfl⟩
            rw [← hx] at hcx
            clear hlt' hx
            go_wp2_with fail
            go_ret
            exact ⟨ret_int HE.out.symm, rfl⟩
        · obtain rfl : k = n := by omega
          clear hlt
          by_cases h3 : k < n'
          · have HE := Lib.hid (show cmpL xs ys = -1 by rw [HA.out, cmpL_end (.inl HL.out.symm) (by rw [HL.out]; omega) (by rw [HL'.out]; omega), HL.out, HL'.out, if_pos h3])
            go_wp2_with fail
            go_ret
            exact ⟨ret_int HE.out.symm, rfl⟩
          · have HE := Lib.hid (show cmpL xs ys = 0 by rw [HA.out, cmpL_end (.inl HL.out.symm) (by rw [HL.out]; omega) (by rw [HL'.out]; omega), HL.out, HL'.out, if_neg h3, if_neg (by omega)])
            obtain rfl : k = n' := by omega
            clear h3
            go_wp2_with fail
            go_ret
            exact ⟨ret_int HE.out.symm, rfl⟩
theorem compN_any (a a' : Option Addr) (n cap n' cap' : Nat) (xs ys : List Int) (w : World) (hx : Rd w a n cap xs) (hy : Rd w a' n' cap' ys) :
    Calls Tryd.prog 20 #[.slice a n cap, .slice a' n' cap'] w fun e w' => e = .returned (.int .i64 (cmpL xs ys)) ∧ w = w' := by
  have HC := Lib.hid (slComp_any a a' n cap n' cap' xs ys w hx hy)
  clear hx hy
  go_enter Tryd.func20, Tryd.ntmps20
  go_wp2_with fail
  refine HC.out.mono ?_
  rintro e w1 ⟨rfl, rfl⟩
  go_wp2_with fail
  go_ret
  exact ⟨rfl, rfl⟩
end Go.Proofs.YtgcddiakdmddjaaDoor
