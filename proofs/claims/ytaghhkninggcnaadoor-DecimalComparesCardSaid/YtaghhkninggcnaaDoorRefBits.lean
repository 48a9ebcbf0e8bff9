/-
  The reference's Bits.
-/
import Derived.Test.YtaghhkninggcnaaDoorRefDiv
namespace Go.Proofs.YtaghhkninggcnaaDoor
open Go.RowKit

theorem divR_any (a b : Nat) (w : World) (ha : (str a).size ≤ 400000) (hb : (str b).size ≤ 400000) (hb0 : 0 < b) :
    Calls Tryd.prog 38 #[.string (str a), .string (str b)] w fun e w' => e = .returned (.tuple #[.string (str (a / b)), .string (str (a % b))]) ∧ Below w.heap.size w w' := by
  by_cases h : (str a).size ≤ 18 ∧ (str b).size ≤ 18
  · exact divR_small a b w h.1 h.2 hb0
  · exact divR_big a b w ha hb hb0 h
theorem str30 : str 1073741824 = ⟨#[49, 48, 55, 51, 55, 52, 49, 56, 50, 52]⟩ := (str_eq _ (by decide) (by decide)).symm
theorem two_le {a m s : Nat} (h : 2 ^ m ≤ a) (hs : (str a).size ≤ s) : m ≤ 4 * s := by
  have h1 := lt_of_size hs
  have h2 : (10 : Nat) ^ s ≤ (2 ^ 4) ^ s := Nat.pow_le_pow_left (by decide) _
  rw [← Nat.pow_mul] at h2
  have h3 : 2 ^ m < 2 ^ (4 * s) := by omega
  exact Nat.le_of_lt ((Nat.pow_lt_pow_iff_right (a := 2) (by decide)).1 h3)
theorem div_pos_le {X j : Nat} (h : 0 < X / 2 ^ j) : 2 ^ j ≤ X := by
  apply Nat.le_of_not_lt; intro h1
  rw [Nat.div_eq_of_lt h1] at h; omega
theorem bits_end {X j : Nat} (h : X / 2 ^ j = 0) (h0 : j = 0 ∨ 0 < X / 2 ^ (j - 1)) : BitsOf X j := by
  refine ⟨?_, ?_⟩
  · rcases Nat.div_eq_zero_iff.1 h with h1 | h1
    · exact absurd h1 (Nat.ne_of_gt (Nat.pow_pos (by decide)))
    · exact h1
  · rcases h0 with h0 | h0
    · exact .inl h0
    · exact .inr (div_pos_le h0)
theorem strval (X : Nat) : val (str X).data.toList = X := by rw [str_list]; exact val_dd X

set_option maxHeartbeats 3200000 in
set_option maxRecDepth 100000 in
theorem bitsR_any (a : Nat) (w : World) (ha : (str a).size ≤ 400000) :
    Calls Tryd.prog 27 #[.string (str a)] w fun e w' => ∃ k : Nat, e = .returned (.int .i64 k) ∧ BitsOf a k ∧ Below w.heap.size w w' := by
  have HA := Lib.hid ha
  have HD := Lib.hid (fun (x : Nat) wx (hx : (str x).size ≤ 400000) => by
    have h := divR_any x 1073741824 wx hx (by rw [str30]; decide) (by decide)
    rw [str30] at h
    exact h)
  clear ha
  go_enter Tryd.func27, Tryd.ntmps27
  go_wp2_with fail
  go_loopw [0, 3, 4, 5] (fun xv nv _ _ wr => ∃ (X n : Nat), xv = .string (str X) ∧ nv = .int .i64 n ∧ n ≤ 1600000 ∧ Hid (X = a / 2 ^ n ∧ (0 < X ∨ (n = 0 ∧ a = 0))) ∧ Below w.heap.size w wr) (fun xv _ _ _ _ => match xv with | .string s => val s.data.toList | _ => 0)
  case atStart =>
    refine ⟨a, 0, rfl, rfl, by omega, Lib.hid ⟨by simp, ?_⟩, Below.refl _ _⟩
    by_cases h : a = 0
    · exact .inr ⟨rfl, h⟩
    · exact .inl (by omega)
  case round =>
    obtain ⟨X, n, rfl, rfl, hn, HI, hbel⟩ := hrel
    have HBEL := Lib.hid hbel
    have i0 := is0 X
    clear hbel
    by_cases hX : X = 0
    · have hxz : ((str X).toList == [48]) = true := by rw [i0]; simpa using hX
      have HBI : Hid (BitsOf a n) := by
        rcases HI.out.2 with h | ⟨h1, h2⟩
        · omega
        · refine Lib.hid ?_; rw [h1, h2]; exact BitsOf.zero
      clear i0 hX
      go_wp2_with fail
      go_ret
      exact ⟨n, rfl, HBI.out, HBEL.out⟩
    · have hxz : ((str X).toList == [48]) = false := by rw [i0]; simpa using hX
      have HXP := Lib.hid (Nat.pos_of_ne_zero hX)
      have hXs : (str X).size ≤ 400000 := Nat.le_trans (size_mono (by rw [HI.out.1]; exact Nat.div_le_self _ _)) HA.out
      clear i0 hX
      by_cases hq : (str X).size ≤ 18
      · have HQ := Lib.hid (fun wx => quick_yes X wx hq)
        have HX18 := Lib.hid (lt_of_size hq)
        clear hq hXs
        go_wp2_with fail
        refine (HQ.out _).mono ?_
        rintro e w1 ⟨rfl, rfl⟩
        go_wp2_with fail
        go_loopw [3, 4] (fun nv yv wr2 => ∃ (j y : Nat), nv = .int .i64 ((n : Int) + j) ∧ yv = .int .u64 y ∧ j ≤ 61 ∧ y < 1000000000000000000 ∧ Hid (y = X / 2 ^ j ∧ (j = 0 ∨ 0 < X / 2 ^ (j - 1))) ∧ wr2 = wr) (fun _ yv _ => (intOf yv).toNat)
        case atStart => exact ⟨0, X, by simp, rfl, by omega, HX18.out, Lib.hid ⟨by simp, .inl rfl⟩, rfl⟩
        case round =>
          obtain ⟨j, y, rfl, rfl, hj, hy, HJ, hw⟩ := hrel
          obtain rfl := hw.symm
          by_cases hy0 : 0 < y
          · have HJ2 : Hid (y / 2 = X / 2 ^ (j + 1) ∧ (j + 1 = 0 ∨ 0 < X / 2 ^ (j + 1 - 1))) := by
              refine Lib.hid ⟨?_, .inr ?_⟩
              · rw [HJ.out.1, Nat.pow_succ, Nat.div_div_eq_div_mul]
              · rw [Nat.add_sub_cancel, ← HJ.out.1]; exact hy0
            have hj2 : j ≤ 60 := by
              have h1 : 2 ^ j ≤ X := div_pos_le (by rw [← HJ.out.1]; exact hy0)
              have h2 := HX18.out
              have h3 : 2 ^ j < 2 ^ 60 := by omega
              have h4 := (Nat.pow_lt_pow_iff_right (a := 2) (by decide)).1 h3
              omega
            go_wp2_with fail
            refine ⟨⟨j + 1, y / 2, by push_cast; go_num, by push_cast; rfl, by omega, by omega, HJ2, trivial⟩, ?_⟩
            simp [intOf] <;> omega
          · have HBO : Hid (BitsOf a (n + j)) := by
              have h0 : X / 2 ^ j = 0 := by rw [← HJ.out.1]; omega
              have h1 := bits_end h0 HJ.out.2
              refine Lib.hid ?_
              rw [Nat.add_comm]
              exact BitsOf.shift (j := n) (by rw [← HI.out.1]; exact h1) (by rw [← HI.out.1]; exact HXP.out)
            go_wp2_with fail
            go_ret
            exact ⟨n + j, by push_cast; rfl, HBO.out, HBEL.out⟩
      · have HQ := Lib.hid (fun wx => quick_no X wx (by omega))
        have HDX := Lib.hid (fun wx => HD.out X wx hXs)
        have h18 : 10 ^ 18 ≤ X := by
          apply Nat.le_of_not_lt; intro h1
          exact hq (str_big h1 (by decide))
        have hXn : 0 < X / 1073741824 := by omega
        have HXL := Lib.hid (show X / 1073741824 < X by omega)
        have HI2 : X / 1073741824 = a / 2 ^ (n + 30) := by rw [HI.out.1, Nat.pow_add, Nat.div_div_eq_div_mul]
        have hn2 : n + 30 ≤ 1600000 := by
          have h1 : 2 ^ (n + 30) ≤ a := div_pos_le (by rw [← HI2]; exact hXn)
          exact two_le h1 HA.out
        obtain ⟨Y, hY⟩ : ∃ Y, Y = X / 1073741824 := ⟨_, rfl⟩
        rw [← hY] at HDX hXn HXL HI2
        have HI3 : Hid (Y = a / 2 ^ (n + 30) ∧ (0 < Y ∨ (n + 30 = 0 ∧ a = 0))) := Lib.hid ⟨HI2, .inl hXn⟩
        clear hq hXs h18 hXn HI2 hY
        go_wp2_with fail
        refine (HQ.out _).mono ?_
        rintro e w1 ⟨rfl, rfl⟩
        go_wp2_with fail
        refine (HDX.out _).mono ?_
        rintro e w2 ⟨rfl, h2⟩
        have HB2 := Lib.hid (HBEL.out.trans (h2.mono HBEL.out.size))
        clear h2
        go_wp2_with fail
        refine ⟨⟨Y, n + 30, rfl, by push_cast; rfl, hn2, HI3, HB2.out⟩, ?_⟩
        show val (str Y).data.toList < val (str X).data.toList
        rw [strval, strval]; exact HXL.out
end Go.Proofs.YtaghhkninggcnaaDoor
