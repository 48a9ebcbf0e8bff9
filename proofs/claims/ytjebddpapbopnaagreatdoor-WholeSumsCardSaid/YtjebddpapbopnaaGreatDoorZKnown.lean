/-
  The laws of package whole: known.
-/
import Derived.Test.YtjebddpapbopnaaGreatDoorZSum
namespace Go.Proofs.YtjebddpapbopnaaGreatDoor
open Go.RowKit

theorem lit_pos (s : ByteArray) (n : Nat) (h : s = str n) : s = zS (n : Int) := by rw [zS_of_nat]; exact h
theorem lit_neg (s : ByteArray) (n : Nat) (h0 : n ≠ 0) (h : s = str n) : ⟨#[45]⟩ ++ s = zS (-(n : Int)) := by rw [zS_of_neg n h0, h]
theorem zl_m7 : (⟨#[45, 55]⟩ : ByteArray) = zS (-7) := lit_neg ⟨#[55]⟩ 7 (by decide) (str_eq 7 (by decide) (by decide))
theorem zl_2 : (⟨#[50]⟩ : ByteArray) = zS 2 := lit_pos ⟨#[50]⟩ 2 (str_eq 2 (by decide) (by decide))
theorem zl_m4 : (⟨#[45, 52]⟩ : ByteArray) = zS (-4) := lit_neg ⟨#[52]⟩ 4 (by decide) (str_eq 4 (by decide) (by decide))
theorem zl_1 : (⟨#[49]⟩ : ByteArray) = zS 1 := lit_pos ⟨#[49]⟩ 1 (str_eq 1 (by decide) (by decide))
theorem zl_m12 : (⟨#[45, 49, 50]⟩ : ByteArray) = zS (-12) := lit_neg ⟨#[49, 50]⟩ 12 (by decide) (str_eq 12 (by decide) (by decide))
theorem zl_18 : (⟨#[49, 56]⟩ : ByteArray) = zS 18 := lit_pos ⟨#[49, 56]⟩ 18 (str_eq 18 (by decide) (by decide))
theorem zl_m3 : (⟨#[45, 51]⟩ : ByteArray) = zS (-3) := lit_neg ⟨#[51]⟩ 3 (by decide) (str_eq 3 (by decide) (by decide))
theorem zl_m2 : (⟨#[45, 50]⟩ : ByteArray) = zS (-2) := lit_neg ⟨#[50]⟩ 2 (by decide) (str_eq 2 (by decide) (by decide))
theorem sz_lit {n k : Nat} (h : n < 1000000000) (hk : 9 ≤ k) : (str n).size ≤ k := Nat.le_trans (str_big (n := 9) (Nat.lt_of_lt_of_le h (by decide)) (by decide)) hk
theorem kn_div (w : World) (hs : Std w) :
    Calls Tryz.prog 41 #[.string ⟨#[45, 55]⟩, .string ⟨#[50]⟩] w fun e w' => e = .returned (.tuple #[.string ⟨#[45, 52]⟩, .string ⟨#[49]⟩, .int .i64 0]) ∧ Below w.heap.size w w' := by
  rw [zl_m7, zl_2, zl_m4, zl_1]
  exact divW_any (-7) 2 w hs (sz_lit (by decide) (by decide)) (sz_lit (by decide) (by decide)) (by decide)
theorem bz_12 : IsBz (-12) 18 1 1 := ⟨(fun h => absurd h (by decide)), (fun _ => ⟨by decide, by decide, ⟨-1, by decide⟩⟩), by decide⟩
theorem kn_bez (w : World) (hs : Std w) :
    Calls Tryz.prog 43 #[.string ⟨#[45, 49, 50]⟩, .string ⟨#[49, 56]⟩] w fun e w' => e = .returned (.tuple #[.string ⟨#[54]⟩, .string ⟨#[49]⟩, .string ⟨#[49]⟩]) ∧ Below w.heap.size w w' := by
  rw [zl_m12, zl_18, zl_1, show (⟨#[54]⟩ : ByteArray) = str (Nat.gcd (Int.natAbs (-12)) (Int.natAbs 18)) from str_eq 6 (by decide) (by decide)]
  refine (bezW_any (-12) 18 w hs (sz_lit (by decide) (by decide)) (sz_lit (by decide) (by decide))).mono ?_
  rintro e w' ⟨⟨x, y, he, hb⟩, h⟩
  obtain ⟨rfl, rfl⟩ := hb.unique bz_12
  exact ⟨he, h⟩
theorem kn_par (w : World) :
    Calls Tryz.prog 22 #[.string ⟨#[45, 48, 48, 55]⟩] w fun e w' => e = .returned (.tuple #[.string ⟨#[45, 55]⟩, .int .i64 0]) ∧ Below w.heap.size w w' := by
  have h := parW_any (⟨#[45]⟩ ++ ⟨#[48, 48, 55]⟩) w (by decide)
  rw [parV_neg (D := ⟨#[48, 48, 55]⟩) (by decide) (by decide) (sz_lit (by decide) (by decide))] at h
  have e : zS (-((val (⟨#[48, 48, 55]⟩ : ByteArray).data.toList : Nat) : Int)) = ⟨#[45, 55]⟩ := zl_m7.symm
  rw [e] at h
  exact h
theorem kn_bad (w : World) :
    Calls Tryz.prog 22 #[.string ⟨#[43, 49]⟩] w fun e w' => e = .returned (.tuple #[.string ⟨#[]⟩, .int .i64 15]) ∧ Below w.heap.size w w' := by
  have h := parW_any ⟨#[43, 49]⟩ w (by decide)
  rw [parV_bad (s := ⟨#[43, 49]⟩) (by decide) (.inr (by decide))] at h
  exact h
theorem kn_lcm (w : World) (hs : Std w) :
    Calls Tryz.prog 47 #[.string ⟨#[45, 49, 50]⟩, .string ⟨#[49, 56]⟩] w fun e w' => e = .returned (.string ⟨#[51, 54]⟩) ∧ Below w.heap.size w w' := by
  rw [zl_m12, zl_18, show (⟨#[51, 54]⟩ : ByteArray) = str (lcmZ (-12) 18) from str_eq 36 (by decide) (by decide)]
  exact lcmW_any (-12) 18 w hs (sz_lit (by decide) (by decide)) (sz_lit (by decide) (by decide))
theorem kn_sum (w : World) (hs : Std w) :
    Calls Tryz.prog 36 #[.slice (some ⟨w.heap.size, 0, none⟩) 2 2] (w.alloc (.cells #[.string ⟨#[49]⟩, .string ⟨#[45, 51]⟩] 25)) fun e w' => e = .returned (.string ⟨#[45, 50]⟩) ∧ Below w.heap.size w w' := by
  have ha := (Below.refl w.heap.size w).alloc (Nat.le_refl _) (.cells #[.string ⟨#[49]⟩, .string ⟨#[45, 51]⟩] 25)
  have h := sumW_any (some ⟨w.heap.size, 0, none⟩) 2 [1, -3] (w.alloc (.cells #[.string ⟨#[49]⟩, .string ⟨#[45, 51]⟩] 25)) (hs.alloc _) (.inr ⟨w.heap.size, 0, rfl, by
      show _ < (w.heap.push _).size; rw [Array.size_push]; omega, fun i hi => by
      have hi2 : i < 2 := hi
      rw [World.cell?_alloc_new]
      rcases (by omega : i = 0 ∨ i = 1) with rfl | rfl
      · show some (Value.string ⟨#[49]⟩) = some (.string (zS 1)); rw [zl_1]
      · show some (Value.string ⟨#[45, 51]⟩) = some (.string (zS (-3))); rw [zl_m3]⟩) (by decide) (by decide)
  rw [show [1, (-3 : Int)].sum = -2 by decide, ← zl_m2] at h
  refine h.mono ?_
  rintro e w' ⟨he, hb⟩
  exact ⟨he, ha.trans (hb.mono ha.size)⟩
set_option maxHeartbeats 1600000 in
set_option maxRecDepth 100000 in
theorem knownZ_any (w : World) (hs : Std w) :
    Calls Tryz.prog 14 #[] w fun e w' => e = .returned (.bool true) ∧ Below w.heap.size w w' := by
  have HS := Lib.hid hs
  clear hs
  go_enter Tryz.func14, Tryz.ntmps14
  go_wp2_with fail
  refine (kn_div _ HS.out).mono ?_
  rintro e w1 ⟨rfl, h1⟩
  have B1 := Lib.hid h1
  clear h1
  go_wp2_with fail
  refine (kn_bez _ (HS.out.below B1.out)).mono ?_
  rintro e w2 ⟨rfl, h2⟩
  have B2 := Lib.hid (B1.out.trans (h2.mono B1.out.size))
  clear h2
  go_wp2_with fail
  refine (kn_par _).mono ?_
  rintro e w3 ⟨rfl, h3⟩
  have B3 := Lib.hid (B2.out.trans (h3.mono B2.out.size))
  clear h3
  go_wp2_with fail
  refine (kn_bad _).mono ?_
  rintro e w4 ⟨rfl, h4⟩
  have B4 := Lib.hid (B3.out.trans (h4.mono B3.out.size))
  clear h4
  go_wp2_with fail
  refine (kn_lcm _ (HS.out.below B4.out)).mono ?_
  rintro e w5 ⟨rfl, h5⟩
  have B5 := Lib.hid (B4.out.trans (h5.mono B4.out.size))
  clear h5
  go_wp2_with fail
  refine (kn_sum _ (HS.out.below B5.out)).mono ?_
  rintro e w6 ⟨rfl, h6⟩
  have B6 := Lib.hid (B5.out.trans (h6.mono B5.out.size))
  clear h6
  go_wp2_with fail
  go_ret
  exact ⟨rfl, B6.out⟩
end Go.Proofs.YtjebddpapbopnaaGreatDoor
