/-
  Leaves over rows that only read.
-/
import Derived.Test.YtkpaopfdnfgjeaaGreatDoorWRead
namespace Go.Proofs.YtkpaopfdnfgjeaaGreatDoor
open Go.RowKit

set_option maxHeartbeats 400000 in
theorem zeroN_any (a : Option Addr) (n cap : Nat) (l : List Int) (w : World) (h : Rd w a n cap l) :
    Calls Tryz.prog 31 #[.slice a n cap] w fun e w' => e = .returned (.bool (zeroB l)) ∧ w = w' := by
  have hc := h.cap
  have hl := h.len
  rcases h.ways with ⟨rfl, rfl⟩ | ⟨b, off, rfl, hb, hcell⟩
  · clear h
    go_enter Tryz.func31, Tryz.ntmps31
    go_wp2_with fail
    refine wp_loop_rounds 1 ?_
    rw [rounds_succ]
    go_wp2_with fail
    go_ret
    exact ⟨rfl, rfl⟩
  · have HL := Lib.hid hl
    have HC := Lib.hid hcell
    clear hl hcell h
    go_enter Tryz.func31, Tryz.ntmps31
    go_wp2_with fail
    go_loop [7] (fun iv => ∃ k : Nat, iv = .int .i64 k ∧ k ≤ n ∧ Hid ((l.take k).all (fun z => z == 0) = true)) (fun iv => n - (intOf iv).toNat)
    case atStart => exact ⟨0, rfl, Nat.zero_le _, by simp [Hid]⟩
    case round =>
      obtain ⟨k, rfl, hk, HA⟩ := hrel
      by_cases hlt : k < n
      · have hkl : k < l.length := by rw [HL.out]; exact hlt
        have hcl := HC.out k hkl
        obtain ⟨z, hz⟩ : ∃ z, z = l[k] := ⟨_, rfl⟩
        rw [← hz] at hcl
        have HZ := Lib.hid hz
        clear hz
        cases he : (z == 0) with
        | true =>
          have HT := Lib.hid (show (l.take (k + 1)).all (fun z => z == 0) = true by rw [all_take_succ _ _ _ hkl, HA.out, ← HZ.out, he]; rfl)
          obtain rfl : z = 0 := by simpa using he
          clear he
          go_wp2_with fail
          go_round
          case rel => exact ⟨k + 1, by go_num, by omega, HT⟩
          case measure => simp [intOf]; omega
        | false =>
          have HR := Lib.hid (show zeroB l = false from all_false_at hkl (by rw [← HZ.out]; exact he))
          have hne : (z != 0) = true := by simp at he; simpa using he
          go_wp2_with fail
          go_ret
          exact ⟨ret_bool HR.out.symm, rfl⟩
      · obtain rfl : k = n := by omega
        have hall := HA.out
        rw [List.take_of_length_le (by rw [HL.out]; omega)] at hall
        have HR := Lib.hid hall
        clear hall
        go_wp2_with fail
        go_ret
        exact ⟨ret_bool ((show zeroB l = true from HR.out).symm), rfl⟩


set_option maxHeartbeats 400000 in
theorem checkR_le (a : Option Addr) (n cap : Nat) (l : List Int) (w : World) (h : Rd w a n cap l) (h64 : n ≤ 64) :
    Calls Tryz.prog 7 #[.slice a n cap] w fun e w' => e = .returned (.int .i64 (errR l)) ∧ w = w' := by
  have hc := h.cap
  have hl := h.len
  rcases h.ways with ⟨rfl, rfl⟩ | ⟨b, off, rfl, hb, hcell⟩
  · clear h
    go_enter Tryz.func7, Tryz.ntmps7
    go_wp2_with fail
    refine wp_loop_rounds 1 ?_
    rw [rounds_succ]
    go_wp2_with fail
    go_ret
    exact ⟨rfl, rfl⟩
  · have HL := Lib.hid hl
    have HC := Lib.hid hcell
    clear hl hcell h
    go_enter Tryz.func7, Tryz.ntmps7
    go_wp2_with fail
    go_loop [3] (fun iv => ∃ k : Nat, iv = .int .i64 k ∧ k ≤ n ∧ Hid ((l.take k).all entB = true)) (fun iv => n - (intOf iv).toNat)
    case atStart => exact ⟨0, rfl, Nat.zero_le _, by simp [Hid]⟩
    case round =>
      obtain ⟨k, rfl, hk, HA⟩ := hrel
      by_cases hlt : k < n
      · have hkl : k < l.length := by rw [HL.out]; exact hlt
        have hcl := HC.out k hkl
        obtain ⟨z, hz⟩ : ∃ z, z = l[k] := ⟨_, rfl⟩
        rw [← hz] at hcl
        have HZ := Lib.hid hz
        clear hz
        by_cases h1 : z ≤ 1000000000
        · by_cases h2 : -1000000000 ≤ z
          · have HT := Lib.hid (show (l.take (k + 1)).all entB = true by rw [all_take_succ _ _ _ hkl, HA.out, ← HZ.out, entB_iff.2 ⟨h2, h1⟩]; rfl)
            go_wp2_with fail
            go_round
            case rel => exact ⟨k + 1, by go_num, by omega, HT⟩
            case measure => simp [intOf]; omega
          · have HR := Lib.hid (show errR l = 4 from errR_no (okB_bad hkl (by rw [← HZ.out]; unfold entB; simp [h2])))
            have h2' : z < -1000000000 := by omega
            go_wp2_with fail
            go_ret
            exact ⟨ret_int HR.out.symm, rfl⟩
        · have HR := Lib.hid (show errR l = 4 from errR_no (okB_bad hkl (by rw [← HZ.out]; unfold entB; simp [h1])))
          have h1' : 1000000000 < z := by omega
          go_wp2_with fail
          go_ret
          exact ⟨ret_int HR.out.symm, rfl⟩
      · obtain rfl : k = n := by omega
        have hall := HA.out
        rw [List.take_of_length_le (by rw [HL.out]; omega)] at hall
        have HR := Lib.hid hall
        clear hall
        go_wp2_with fail
        go_ret
        exact ⟨ret_int ((show errR l = 0 from errR_ok (okB_good (by rw [HL.out]; omega) HR.out)).symm), rfl⟩

theorem checkR_any (a : Option Addr) (n cap : Nat) (l : List Int) (w : World) (h : Rd w a n cap l) :
    Calls Tryz.prog 7 #[.slice a n cap] w fun e w' => e = .returned (.int .i64 (errR l)) ∧ w = w' := by
  by_cases h64 : n ≤ 64
  · exact checkR_le a n cap l w h h64
  · have HR := Lib.hid (show errR l = 4 from errR_no (okB_long (by rw [h.len]; omega)))
    have h64' : 64 < n := by omega
    have hc := h.cap
    clear h
    go_enter Tryz.func7, Tryz.ntmps7
    go_wp2_with fail
    go_ret
    exact ⟨ret_int HR.out.symm, rfl⟩

set_option maxHeartbeats 400000 in
theorem magN_any (z : Int) (w : World) (h1 : -9223372036854775807 ≤ z) (h2 : z ≤ 9223372036854775807) :
    Calls Tryz.prog 46 #[.int .i64 z] w fun e w' => e = .returned (.int .i64 (absI z)) ∧ w = w' := by
  by_cases h : z < 0
  · have e : absI z = -z := if_pos h
    have HE := Lib.hid e
    clear e
    go_enter Tryz.func46, Tryz.ntmps46
    go_wp2
    go_ret
    exact ⟨ret_int (by rw [HE.out]), rfl⟩
  · have e : absI z = z := if_neg h
    have HE := Lib.hid e
    clear e
    go_enter Tryz.func46, Tryz.ntmps46
    go_wp2
    go_ret
    exact ⟨ret_int (by rw [HE.out]), rfl⟩

end Go.Proofs.YtkpaopfdnfgjeaaGreatDoor
