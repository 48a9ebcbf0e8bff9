/-
  The reference's Minus.
-/
import Derived.Test.YtfhmdlpjeiockaaDoorRefAdd
namespace Go.Proofs.YtfhmdlpjeiockaaDoor
open Go.RowKit

theorem minusR_step {S : List UInt8} {a b k c c' v : Nat} (hl : S.length = k) (hv9 : v < 10) (h : val S + b % 10 ^ k = a % 10 ^ k + 10 ^ k * c) (hv : v + b / 10 ^ k % 10 + c = a / 10 ^ k % 10 + 10 * c') :
    val (UInt8.ofNat (48 + v) :: S) + b % 10 ^ (k + 1) = a % 10 ^ (k + 1) + 10 ^ (k + 1) * c' := by
  have h1 : 10 ^ k * (v + b / 10 ^ k % 10 + c) = 10 ^ k * (a / 10 ^ k % 10 + 10 * c') := by rw [hv]
  have h2 : 10 ^ k * (v + b / 10 ^ k % 10 + c) = 10 ^ k * v + 10 ^ k * (b / 10 ^ k % 10) + 10 ^ k * c := by rw [Nat.mul_add, Nat.mul_add]
  have h3 : 10 ^ k * (a / 10 ^ k % 10 + 10 * c') = 10 ^ k * (a / 10 ^ k % 10) + 10 ^ (k + 1) * c' := by rw [Nat.mul_add, ← Nat.mul_assoc, ← Nat.pow_succ]
  rw [h2, h3] at h1
  rw [val_cons, ofNat_dig hv9, hl, mod_step, mod_step, show 48 + v - 48 = v by omega, Nat.mul_comm v]
  omega

set_option maxHeartbeats 3200000 in
set_option maxRecDepth 100000 in
theorem minusR_any (a b : Nat) (w : World) (ha : (str a).size ≤ 450000) (hle : b ≤ a) :
    Calls Tryd.prog 32 #[.string (str a), .string (str b)] w fun e w' => e = .returned (.string (str (a - b))) ∧ Below w.heap.size w w' := by
  have hb := size_mono hle
  by_cases hq : (str a).size ≤ 18
  · have HA := Lib.hid (fun wx => quick_yes a wx hq)
    have HB := Lib.hid (fun wx => quick_yes b wx (by omega))
    have h1 := lt_of_size hq
    obtain ⟨s, hs⟩ : ∃ s, s = a - b := ⟨_, rfl⟩
    have HO := Lib.hid (fun wx => ofR_any s wx (by omega))
    have hsi : (a : Int) - (b : Int) = (s : Int) := by omega
    have hwr : IntKind.u64.wrap (s : Int) = (s : Int) := by rw [IntKind.wrap_u64]; omega
    rw [← hs]
    clear hq h1 hs
    go_enter Tryd.func32, Tryd.ntmps32
    go_wp2_with fail
    refine (HA.out _).mono ?_
    rintro e w1 ⟨rfl, rfl⟩
    go_wp2_with fail
    refine (HB.out _).mono ?_
    rintro e w1 ⟨rfl, rfl⟩
    go_wp2_with fail
    refine (HO.out _).mono ?_
    rintro e w1 ⟨rfl, h1⟩
    go_wp2_with fail
    go_ret
    exact ⟨rfl, h1⟩
  · obtain ⟨i0, hi, hz0, hz1, hz2⟩ := info_parts info8
    have HA := Lib.hid (fun wx => quick_no a wx (by omega))
    obtain ⟨y, by', HB⟩ : ∃ (x : Nat) (bx : Bool), Hid (∀ wx, Calls Tryd.prog 26 #[.string (str b)] wx fun e w' => e = .returned (.tuple #[.int .u64 x, .bool bx]) ∧ wx = w') := by
      by_cases h : (str b).size ≤ 18
      · exact ⟨b, true, fun wx => quick_yes b wx h⟩
      · exact ⟨0, false, fun wx => quick_no b wx (by omega)⟩
    obtain ⟨N, hN⟩ : ∃ N : Nat, N = (str a).size := ⟨_, rfl⟩
    have hNi : ((str a).size : Int) = (N : Int) := by omega
    have hN0 : 0 < N := by omega
    have hNb : N ≤ 450000 := by omega
    have HDA := Lib.hid (fun (k : Nat) wx (hk : k ≤ 1000000) => digit_any a k wx (by omega) hk)
    have HDB := Lib.hid (fun (k : Nat) wx (hk : k ≤ 1000000) => digit_any b k wx (by omega) hk)
    have HLA := Lib.hid (lt_of_size (a := a) (n := N) (by omega))
    have HLE := Lib.hid hle
    clear hq hle hN
    go_enter Tryd.func32, Tryd.ntmps32
    go_wp2_with fail
    refine (HA.out _).mono ?_
    rintro e w1 ⟨rfl, rfl⟩
    go_wp2_with fail
    refine (HB.out _).mono ?_
    rintro e w1 ⟨rfl, rfl⟩
    go_wp2_with (at_make; refine wpList_make_full _ rfl _ _ 22 rfl w.heap.size 5 i0 (.int .u8 0) 1 Tryd.underlying22 hi hz0 hz1 .i64 .i64 _ _ N rfl rfl rfl rfl (by rw [hz2]; omega) (by unfold maxLen; omega) (Nat.le_refl _) ?_; intro w0 hown0 hgrow0)
    all_goals
      have hbel0 : Below w.heap.size w w0 := (Below.refl _ _).grown hgrow0 (Nat.le_refl _) (by intro k hk; cases hk)
      have hrow0 := RowB.made hown0
      clear hown0 hgrow0
      go_wp2_with fail
      go_loopw [11, 12, 13] (fun cv iv _ wr => ∃ (k c : Nat) (S : List UInt8), iv = .int .i64 k ∧ k ≤ N ∧ cv = .int .i64 c ∧ c ≤ 1 ∧ Hid (S.length = k ∧ S.all isD = true ∧ val S + b % 10 ^ k = a % 10 ^ k + 10 ^ k * c) ∧ RowB wr w.heap.size w.heap.size N N (dig0 (N - k) S) ∧ Below w.heap.size w wr) (fun _ iv _ _ => N - (intOf iv).toNat)
      case atStart => exact ⟨0, 0, [], rfl, Nat.zero_le _, rfl, by omega, ⟨rfl, rfl, by simp [val, Nat.mod_one]⟩, hrow0, hbel0⟩
      case round =>
        obtain ⟨k, c, S, rfl, hk, rfl, hc, HI, hrow, hbel⟩ := hrel
        by_cases hlt : k < N
        · have hql : N - 1 - k < (dig0 (N - k) S).length := by rw [dig0_len]; omega
          obtain ⟨c0, hc0⟩ : ∃ c0 : Int, wr.cell? ⟨w.heap.size, N - 1 - k, none⟩ = some (.int .u8 c0) := ⟨_, hrow.cell _ hql⟩
          have hf0 := hrow.free (N - 1 - k)
          have HD1 := Lib.hid (fun wx => HDA.out k wx (by omega))
          have HD2 := Lib.hid (fun wx => HDB.out k wx (by omega))
          obtain ⟨da, hda⟩ : ∃ d, d = a / 10 ^ k % 10 := ⟨_, rfl⟩
          obtain ⟨db, hdb⟩ : ∃ d, d = b / 10 ^ k % 10 := ⟨_, rfl⟩
          have hda9 : da < 10 := by omega
          have hdb9 : db < 10 := by omega
          rw [← hda] at HD1
          rw [← hdb] at HD2
          by_cases hneg : da < db + c
          · obtain ⟨v, hv⟩ : ∃ v, v = da + 10 - (db + c) := ⟨_, rfl⟩
            have hv9 : v < 10 := by omega
            have hst := minusR_step (c' := 1) HI.1 hv9 HI.2.2 (by rw [← hda, ← hdb]; omega)
            have hset := hrow.set (N - 1 - k) (UInt8.ofNat (48 + v))
            rw [dig0_set' _ _ hlt] at hset
            have ed : ((UInt8.ofNat (48 + v)).toNat : Int) = 48 + ((da : Int) - (db : Int) - (c : Int) + 10) := by rw [ofNat_dig hv9]; omega
            rw [ed] at hset
            have HST := Lib.hid hst
            have HSET := Lib.hid hset
            have HB2 := Lib.hid hbel
            have HAL := Lib.hid (all_cons' HI.2.1 hv9)
            clear hst hset hbel hrow hda hdb ed hql hv
            go_wp2_with fail
            refine (HD1.out _).mono ?_
            rintro e w1 ⟨rfl, rfl⟩
            go_wp2_with fail
            refine (HD2.out _).mono ?_
            rintro e w1 ⟨rfl, rfl⟩
            go_wp2_with fail
            all_goals go_roundw
            case rel => exact ⟨k + 1, 1, UInt8.ofNat (48 + v) :: S, by go_num, by omega, rfl, by omega, ⟨by rw [List.length_cons, HI.1], HAL.out, HST.out⟩, HSET.out, HB2.out.setCell (Nat.le_refl _) _⟩
            case measure => simp [intOf] <;> omega
          · obtain ⟨v, hv⟩ : ∃ v, v = da - (db + c) := ⟨_, rfl⟩
            have hv9 : v < 10 := by omega
            have hst := minusR_step (c' := 0) HI.1 hv9 HI.2.2 (by rw [← hda, ← hdb]; omega)
            have hset := hrow.set (N - 1 - k) (UInt8.ofNat (48 + v))
            rw [dig0_set' _ _ hlt] at hset
            have ed : ((UInt8.ofNat (48 + v)).toNat : Int) = 48 + ((da : Int) - (db : Int) - (c : Int)) := by rw [ofNat_dig hv9]; omega
            rw [ed] at hset
            have HST := Lib.hid hst
            have HSET := Lib.hid hset
            have HB2 := Lib.hid hbel
            have HAL := Lib.hid (all_cons' HI.2.1 hv9)
            clear hst hset hbel hrow hda hdb ed hql hv
            go_wp2_with fail
            refine (HD1.out _).mono ?_
            rintro e w1 ⟨rfl, rfl⟩
            go_wp2_with fail
            refine (HD2.out _).mono ?_
            rintro e w1 ⟨rfl, rfl⟩
            go_wp2_with fail
            all_goals go_roundw
            case rel => exact ⟨k + 1, 0, UInt8.ofNat (48 + v) :: S, by go_num, by omega, rfl, by omega, ⟨by rw [List.length_cons, HI.1], HAL.out, HST.out⟩, HSET.out, HB2.out.setCell (Nat.le_refl _) _⟩
            case measure => simp [intOf] <;> omega
        · obtain rfl : k = N := by omega
          have hv : val S = a - b := by
            have h1 := HI.2.2
            have h2 := HLA.out
            have h3 := HLE.out
            have h5 := val_lt S HI.2.1
            rw [HI.1] at h5
            rw [Nat.mod_eq_of_lt (by omega), Nat.mod_eq_of_lt h2] at h1
            rcases (show c = 0 ∨ c = 1 by omega) with h | h
            · rw [h] at h1; omega
            · rw [h] at h1; omega
          have hrow2 : RowB wr w.heap.size w.heap.size k k S := by
            have := hrow; rw [Nat.sub_self] at this; simpa [dig0] using this
          have ht := trimR_any _ _ _ k S wr hrow2 HI.2.1 hN0
          rw [hv] at ht
          have HT := Lib.hid ht
          have HB2 := Lib.hid hbel
          clear ht hv hrow hrow2 hbel
          go_wp2_with fail
          refine HT.out.mono ?_
          rintro e w1 ⟨rfl, rfl⟩
          go_wp2_with fail
          go_ret
          exact ⟨rfl, HB2.out⟩
end Go.Proofs.YtfhmdlpjeiockaaDoor
